/-
  DERIVED. GIVEN WITH THE SEED: THE CARDS: each row of YtkhalknpfikghaaDoorRows.lean that lists a variable, with what it lists TIED to the program's text (the seventh form; the later family's looks); each row that meets fmt, with fmt's text TOLD by the authors' own Lean function (tested against real Go, not proved from fmt's source: count such statements apart). THE CARD IS WHAT COUNTS. Prove the row's statement (the work); the ties are given (YtkhalknpfikghaaDoorTie.lean); close each card by the builder's one call (the guide's Derived/Test/ToyasCard.lean, 'card_holds'). Laid BY PROGRAM, IN A SANDBOX (cutbox-door.mjs). By AI agents, Wed Nov 11 2026. No macro, syntax, notation, axiom, sorry.
-/
import Derived.Test.YtkhalknpfikghaaDoorRows
import GoSem.ClaimSeven
namespace Go.Proofs.YtkhalknpfikghaaDoor
namespace Rows

/-- THE TIED CARD OF 'weirlaw8.IcmpBack'. -/
def icmpBackCard : Claim7 := { stood := { row := icmpBackRow, standIns := [], harness := (true, "1d6db0c7dd90696c83065d57941ce6a5386b1fa81d827bca9f2c3ea745067c06"), looks := false }, kinds := [], alts := [], laidByText := true, laidKinds := [.data, .data, .data], laidTests := true, laidLooks := .later }
def IcmpBackCardSaid : Prop := Claim7.holds Tryd.pinned (.plain (OpenSpec.ofChange icmpBackSpec)) icmpBackCard

/-- THE TIED CARD OF 'weirlaw8.IcmpParses'. -/
def icmpParsesCard : Claim7 := { stood := { row := icmpParsesRow, standIns := [], harness := (true, "1d6db0c7dd90696c83065d57941ce6a5386b1fa81d827bca9f2c3ea745067c06"), looks := false }, kinds := [], alts := [], laidByText := true, laidKinds := [.data, .data, .data], laidTests := true, laidLooks := .later }
def IcmpParsesCardSaid : Prop := Claim7.holds Tryd.pinned (.plain (OpenSpec.ofChange icmpParsesSpec)) icmpParsesCard

/-- THE TIED CARD OF 'weirlaw8.IcmpWrites'. -/
def icmpWritesCard : Claim7 := { stood := { row := icmpWritesRow, standIns := [], harness := (true, "1d6db0c7dd90696c83065d57941ce6a5386b1fa81d827bca9f2c3ea745067c06"), looks := false }, kinds := [], alts := [], laidByText := true, laidKinds := [.data, .data, .data], laidTests := true, laidLooks := .later }
def IcmpWritesCardSaid : Prop := Claim7.holds Tryd.pinned (.plain (OpenSpec.ofChange icmpWritesSpec)) icmpWritesCard

/-- THE SECOND FORM's CARD OF 'weirlaw8.IcmpBack'. -/
def icmpBackUptoCard : Claim7 := { stood := { row := icmpBackUptoRow, standIns := [], harness := (true, "1d6db0c7dd90696c83065d57941ce6a5386b1fa81d827bca9f2c3ea745067c06"), looks := false }, kinds := [], alts := [], laidByText := true, laidKinds := [.data, .data, .data], laidTests := true, laidLooks := .later }
def IcmpBackUptoCardSaid : Prop := Claim7.holds Tryd.pinned (.plain (OpenSpec.upto icmpBackSpec)) icmpBackUptoCard

/-- THE SECOND FORM's CARD OF 'weirlaw8.IcmpParses'. -/
def icmpParsesUptoCard : Claim7 := { stood := { row := icmpParsesUptoRow, standIns := [], harness := (true, "1d6db0c7dd90696c83065d57941ce6a5386b1fa81d827bca9f2c3ea745067c06"), looks := false }, kinds := [], alts := [], laidByText := true, laidKinds := [.data, .data, .data], laidTests := true, laidLooks := .later }
def IcmpParsesUptoCardSaid : Prop := Claim7.holds Tryd.pinned (.plain (OpenSpec.upto icmpParsesSpec)) icmpParsesUptoCard

/-- THE SECOND FORM's CARD OF 'weirlaw8.IcmpWrites'. -/
def icmpWritesUptoCard : Claim7 := { stood := { row := icmpWritesUptoRow, standIns := [], harness := (true, "1d6db0c7dd90696c83065d57941ce6a5386b1fa81d827bca9f2c3ea745067c06"), looks := false }, kinds := [], alts := [], laidByText := true, laidKinds := [.data, .data, .data], laidTests := true, laidLooks := .later }
def IcmpWritesUptoCardSaid : Prop := Claim7.holds Tryd.pinned (.plain (OpenSpec.upto icmpWritesSpec)) icmpWritesUptoCard
end Rows
end Go.Proofs.YtkhalknpfikghaaDoor
