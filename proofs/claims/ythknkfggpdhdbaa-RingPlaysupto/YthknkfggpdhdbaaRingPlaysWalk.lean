/-
  The walk of RingPlays: it answers true, whatever it is handed within the bound, and writes nothing that was there.
-/
import Derived.Test.YthknkfggpdhdbaaK3j
namespace Go.Proofs.Ythknkfggpdhdbaa.ringPlays
open Go.RowKit

set_option maxRecDepth 100000 in
theorem walk (w : World) (rx : Int) (_w0 : (Lit.int .i64 rx).wf = true) (tx : Int) (_w1 : (Lit.int .i64 tx).wf = true) (pool : Int) (_w2 : (Lit.int .i64 pool).wf = true) (size : Int) (_w3 : (Lit.int .i64 size).wf = true) (a : Option Addr) (len cap : Nat) (ops : List OpV) (hl : ops.length = len) (hs : OpsU w a ops) (hn : len ≤ 1048576) :
    Calls Try.prog 6 #[.int .i64 rx, .int .i64 tx, .int .i64 pool, .int .i64 size, .slice a len cap] w fun e w' => e = .returned (.bool true) ∧ Below w.heap.size w w' := by
  have Q : Hid _ := plays_any w rx tx pool size 9 11 a len cap ops hl hs hn
  clear hl hs
  go_enter Try.func6, Try.ntmps6
  go_wp2_with fail
  refine Calls.mono Q.out ?_
  rintro e w1 ⟨rfl, hb⟩
  go_wp2
  go_ret
  exact ⟨rfl, hb⟩
end Go.Proofs.Ythknkfggpdhdbaa.ringPlays
