/-
  Layer 18: QueuePeeks.
-/
import Derived.Test.YtcdbhkihbfjedaaQP5
namespace Go.Proofs.Ytcdbhkihbfjedaa
open Go.RowKit

set_option maxHeartbeats 1600000 in
set_option maxRecDepth 100000 in
theorem queuePeeks.walk (w : World) (a : Option Addr) (n cap : Nat) (ls : List LI) (hl : ls.length = n) (hs : ListG 5 liL LiW w a ls) (hn : n ≤ 1048576) (b : Option Addr) (len bcap : Nat) (ops : List OV) (hl2 : ops.length = len) (hs2 : ListG 5 ocL OpOk w b ops) (hn2 : len ≤ 1048576) : Calls Try.prog 10 #[.slice a n cap, .slice b len bcap] w fun e w' => e = .returned (.bool true) ∧ Below w.heap.size w w' := by
  have QP : Hid _ := plays_any w a n cap ls hl hs hn b len bcap ops hl2 hs2 hn2 3 3
  clear hl hs hn hl2 hs2 hn2
  go_enter Try.func10, Try.ntmps10
  go_wp2_with fail
  refine Calls.mono QP.out ?_
  rintro e1 w1 ⟨rfl, b1⟩
  have H1 : Hid (Below w.heap.size w w1) := b1
  clear b1 QP
  go_wp2_with fail
  go_ret
  exact ⟨rfl, H1.out⟩
end Go.Proofs.Ytcdbhkihbfjedaa
