/-
  The walk of ViewFields.
-/
import Derived.Test.YtebpaolniemfgabPlaysAll
namespace Go.Proofs.Ytebpaolniemfgab.viewFields
open Go.RowKit

set_option maxHeartbeats 400000 in
theorem walk (w : World) (a0 : Option Addr) (len0 cap0 : Nat) (ops : List OpV) (hl : ops.length = len0) (hs : Script w a0 ops) (hn : len0 ≤ 1048576) :
    Calls Try.prog 7 #[.slice a0 len0 cap0] w fun e w' => e = .returned (.bool true) ∧ Below w.heap.size w w' := by
  subst hl
  go_enter Try.func7, Try.ntmps7
  go_wp2_with fail
  refine (started_any _).mono ?_
  rintro e w1 ⟨rfl, hb1⟩
  go_wp2_with fail
  refine (upTo_any a0 cap0 2 3 ops _ (hs.old hb1) hn (fun W o _ h1 h2 hok => each.plays_all W o (by omega) (by omega) hok)).mono ?_
  rintro e w2 ⟨rfl, hb2⟩
  go_wp2
  go_ret
  exact ⟨rfl, hb1.trans (hb2.mono hb1.size)⟩
end Go.Proofs.Ytebpaolniemfgab.viewFields
