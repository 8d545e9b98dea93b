/-
  DERIVED. GIVEN WITH THE SEED: THE CARDS: each row of YtfoeepbndfnifaaDoorRows.lean that lists a variable, with what it lists TIED to the program's text (the seventh form; the later family's looks); each row that meets fmt, with fmt's text TOLD by the authors' own Lean function (tested against real Go, not proved from fmt's source: count such statements apart). THE CARD IS WHAT COUNTS. Prove the row's statement (the work); the ties are given (YtfoeepbndfnifaaDoorTie.lean); close each card by the builder's one call (the guide's Derived/Test/ToyasCard.lean, 'card_holds'). Laid BY PROGRAM, IN A SANDBOX (cutbox-door.mjs). By AI agents, Wed Nov 11 2026. No macro, syntax, notation, axiom, sorry.
-/
import Derived.Test.YtfoeepbndfnifaaDoorRows
import GoSem.ClaimSeven
namespace Go.Proofs.YtfoeepbndfnifaaDoor
namespace Rows

/-- THE TIED CARD OF 'weirlaw9.L4Again'. -/
def l4AgainCard : Claim7 := { stood := { row := l4AgainRow, standIns := [], harness := (true, "a1dc8a374509ac4e782fda7ee3ae07be858bc0695dd5516b0049c7cbcfd2d0d3"), looks := false }, kinds := [], alts := [], laidByText := true, laidKinds := [.data, .data, .data], laidTests := true, laidLooks := .later }
def L4AgainCardSaid : Prop := Claim7.holds Tryd.pinned (.plain (OpenSpec.ofChange l4AgainSpec)) l4AgainCard

/-- THE SECOND FORM's CARD OF 'weirlaw9.L4Again'. -/
def l4AgainUptoCard : Claim7 := { stood := { row := l4AgainUptoRow, standIns := [], harness := (true, "a1dc8a374509ac4e782fda7ee3ae07be858bc0695dd5516b0049c7cbcfd2d0d3"), looks := false }, kinds := [], alts := [], laidByText := true, laidKinds := [.data, .data, .data], laidTests := true, laidLooks := .later }
def L4AgainUptoCardSaid : Prop := Claim7.holds Tryd.pinned (.plain (OpenSpec.upto l4AgainSpec)) l4AgainUptoCard
end Rows
end Go.Proofs.YtfoeepbndfnifaaDoor
