/-
  DERIVED. GIVEN WITH THE SEED: THE PROGRAM's TIES (one call each: nine closed facts by the kernel) AND EACH ROW's TIE, after the 31st guide's Derived/Test/Toyas{Tie, Card}.lean. No idea stands in it: it is a product of the set-up. Laid BY PROGRAM, IN A SANDBOX (cutbox-door.mjs). By AI agents, Wed Nov 11 2026. No macro, syntax, notation, axiom, sorry.
-/
import Derived.Test.YtclpeepnngegaaaGreatDoorRows
import Derived.LaidByTextLater
import Derived.SevenTiedAt
import Derived.LaidSub
import Derived.LaidOnce
namespace Go.Proofs.YtclpeepnngegaaaGreatDoor
open Go
set_option maxRecDepth 100000
theorem seatTie1 : Tryz.prog.laidByTextLater [("weir/addr.special", Rows.laid_weir_addr_special), ("weir/flow.outTurns", Rows.laid_weir_flow_outTurns), ("weir/flow.inTurns", Rows.laid_weir_flow_inTurns)] [.data, .data, .data] true :=
  Program.laidByTextLater_by_one 63 8 229 (by kernel_rfl) (by kernel_rfl) (by kernel_rfl) (by kernel_rfl) (by kernel_rfl) (by kernel_rfl) (fun _ _ => by kernel_rfl)
theorem noOwnUnsafe : Tryz.pinned.checked.prog.headLifts.contains "ownunsafe" = false := by kernel_rfl
theorem tie : Tryz.prog.laidByTextLater [("weir/addr.special", Rows.laid_weir_addr_special), ("weir/flow.outTurns", Rows.laid_weir_flow_outTurns), ("weir/flow.inTurns", Rows.laid_weir_flow_inTurns)] [.data, .data, .data] true :=
  Program.laidByTextLater.sub seatTie1 ["weir/addr.special", "weir/flow.outTurns", "weir/flow.inTurns"] (by kernel_rfl) (by kernel_rfl)
theorem flowPlays_row_tie : Rows.flowPlaysRow.laidByTextAt .later Tryz.pinned [.data, .data, .data] true :=
  OpenClaim.laidByTextAt_later rfl rfl tie noOwnUnsafe
theorem flowPlaysUpto_row_tie : Rows.flowPlaysUptoRow.laidByTextAt .later Tryz.pinned [.data, .data, .data] true :=
  OpenClaim.laidByTextAt_later rfl rfl tie noOwnUnsafe
end Go.Proofs.YtclpeepnngegaaaGreatDoor
