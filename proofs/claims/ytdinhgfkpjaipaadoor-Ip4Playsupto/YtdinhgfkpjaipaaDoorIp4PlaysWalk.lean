/-
  Ip4Plays: the walk.
-/
import Derived.Test.YtdinhgfkpjaipaaDoorKRc
namespace Go.Proofs.YtdinhgfkpjaipaaDoor
open Go.RowKit

set_option maxRecDepth 100000 in
theorem ip4Plays.walk (w : World) (hw : Wid w) (a : Option Addr) (n cap : Nat) (rs : List OpR) (hn : rs.length = n) (hr : ListG 46 OpR.cells (OpR.Ok w) w a rs) (hm : n ≤ 1048576) :
    Calls Tryd.prog 15 #[.slice a n cap] w fun e w' => e = .returned (.bool true) ∧ Below w.heap.size w w' := by
  have Q : Hid _ := plays_any w hw a n cap rs hn hr hm 1 7
  clear hw hn hr
  go_enter Tryd.func15, Tryd.ntmps15
  go_wp2_with fail
  refine Calls.mono Q.out ?_
  rintro e w1 ⟨rfl, b1⟩
  go_wp2
  go_ret
  exact ⟨rfl, b1⟩
end Go.Proofs.YtdinhgfkpjaipaaDoor
