/-
  DERIVED. GIVEN WITH THE SEED: THE CARDS: each row of YtclpeepnngegaaaGreatDoorRows.lean that lists a variable, with what it lists TIED to the program's text (the seventh form; the later family's looks); each row that meets fmt, with fmt's text TOLD by the authors' own Lean function (tested against real Go, not proved from fmt's source: count such statements apart). THE CARD IS WHAT COUNTS. Prove the row's statement (the work); the ties are given (YtclpeepnngegaaaGreatDoorTie.lean); close each card by the builder's one call (the guide's Derived/Test/ToyasCard.lean, 'card_holds'). Laid BY PROGRAM, IN A SANDBOX (cutbox-door.mjs). By AI agents, Wed Nov 11 2026. No macro, syntax, notation, axiom, sorry.
-/
import Derived.Test.YtclpeepnngegaaaGreatDoorRows
import GoSem.ClaimSeven
namespace Go.Proofs.YtclpeepnngegaaaGreatDoor
namespace Rows

/-- THE TIED CARD OF 'weirlaw17.FlowPlays'. -/
def flowPlaysCard : Claim7 := { stood := { row := flowPlaysRow, standIns := [], harness := (true, "c7fbadfb5887da3825f138cfb0cafbb70ba6367a7a9d9cc90bbfb592cdfc6be1"), looks := false }, kinds := [], alts := [], laidByText := true, laidKinds := [.data, .data, .data], laidTests := true, laidLooks := .later }
def FlowPlaysCardSaid : Prop := Claim7.holds Tryz.pinned (.plain (OpenSpec.ofChange flowPlaysSpec)) flowPlaysCard

/-- THE SECOND FORM's CARD OF 'weirlaw17.FlowPlays'. -/
def flowPlaysUptoCard : Claim7 := { stood := { row := flowPlaysUptoRow, standIns := [], harness := (true, "c7fbadfb5887da3825f138cfb0cafbb70ba6367a7a9d9cc90bbfb592cdfc6be1"), looks := false }, kinds := [], alts := [], laidByText := true, laidKinds := [.data, .data, .data], laidTests := true, laidLooks := .later }
def FlowPlaysUptoCardSaid : Prop := Claim7.holds Tryz.pinned (.plain (OpenSpec.upto flowPlaysSpec)) flowPlaysUptoCard
end Rows
end Go.Proofs.YtclpeepnngegaaaGreatDoor
