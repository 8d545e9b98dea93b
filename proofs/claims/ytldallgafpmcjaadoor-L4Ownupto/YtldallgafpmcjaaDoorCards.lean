/-
  DERIVED. GIVEN WITH THE SEED: THE CARDS: each row of YtldallgafpmcjaaDoorRows.lean that lists a variable, with what it lists TIED to the program's text (the seventh form; the later family's looks); each row that meets fmt, with fmt's text TOLD by the authors' own Lean function (tested against real Go, not proved from fmt's source: count such statements apart). THE CARD IS WHAT COUNTS. Prove the row's statement (the work); the ties are given (YtldallgafpmcjaaDoorTie.lean); close each card by the builder's one call (the guide's Derived/Test/ToyasCard.lean, 'card_holds'). Laid BY PROGRAM, IN A SANDBOX (cutbox-door.mjs). By AI agents, Wed Nov 11 2026. No macro, syntax, notation, axiom, sorry.
-/
import Derived.Test.YtldallgafpmcjaaDoorRows
import GoSem.ClaimSeven
namespace Go.Proofs.YtldallgafpmcjaaDoor
namespace Rows

/-- THE TIED CARD OF 'weirlaw9.L4Own'. -/
def l4OwnCard : Claim7 := { stood := { row := l4OwnRow, standIns := [], harness := (true, "5f250128c0021f43561ad1578444a60124554dbc534a4be823dcf26f2175b5b1"), looks := false }, kinds := [], alts := [], laidByText := true, laidKinds := [.data, .data, .data], laidTests := true, laidLooks := .later }
def L4OwnCardSaid : Prop := Claim7.holds Tryd.pinned (.plain (OpenSpec.ofChange l4OwnSpec)) l4OwnCard

/-- THE SECOND FORM's CARD OF 'weirlaw9.L4Own'. -/
def l4OwnUptoCard : Claim7 := { stood := { row := l4OwnUptoRow, standIns := [], harness := (true, "5f250128c0021f43561ad1578444a60124554dbc534a4be823dcf26f2175b5b1"), looks := false }, kinds := [], alts := [], laidByText := true, laidKinds := [.data, .data, .data], laidTests := true, laidLooks := .later }
def L4OwnUptoCardSaid : Prop := Claim7.holds Tryd.pinned (.plain (OpenSpec.upto l4OwnSpec)) l4OwnUptoCard
end Rows
end Go.Proofs.YtldallgafpmcjaaDoor
