/-
  DERIVED. GIVEN WITH THE SEED: THE CARDS: each row of YtijipfciimcnpaaDoorRows.lean that lists a variable, with what it lists TIED to the program's text (the seventh form; the later family's looks); each row that meets fmt, with fmt's text TOLD by the authors' own Lean function (tested against real Go, not proved from fmt's source: count such statements apart). THE CARD IS WHAT COUNTS. Prove the row's statement (the work); the ties are given (YtijipfciimcnpaaDoorTie.lean); close each card by the builder's one call (the guide's Derived/Test/ToyasCard.lean, 'card_holds'). Laid BY PROGRAM, IN A SANDBOX (cutbox-door.mjs). By AI agents, Wed Nov 11 2026. No macro, syntax, notation, axiom, sorry.
-/
import Derived.Test.YtijipfciimcnpaaDoorRows
import GoSem.ClaimSeven
namespace Go.Proofs.YtijipfciimcnpaaDoor
namespace Rows

/-- THE TIED CARD OF 'weirlaw8.IcmpNdBack'. -/
def icmpNdBackCard : Claim7 := { stood := { row := icmpNdBackRow, standIns := [], harness := (true, "1d035b4423fd050f7c30e00ae06440e5d8214cc3cd824ddab56c721eb093f537"), looks := false }, kinds := [], alts := [], laidByText := true, laidKinds := [.data, .data], laidTests := true, laidLooks := .later }
def IcmpNdBackCardSaid : Prop := Claim7.holds Tryd.pinned (.plain (OpenSpec.ofChange icmpNdBackSpec)) icmpNdBackCard

/-- THE TIED CARD OF 'weirlaw8.IcmpQuiet'. -/
def icmpQuietCard : Claim7 := { stood := { row := icmpQuietRow, standIns := [], harness := (true, "1d035b4423fd050f7c30e00ae06440e5d8214cc3cd824ddab56c721eb093f537"), looks := false }, kinds := [], alts := [], laidByText := true, laidKinds := [.data, .data, .data, .data, .data, .data, .data], laidTests := true, laidLooks := .later }
def IcmpQuietCardSaid : Prop := Claim7.holds Tryd.pinned (.plain (OpenSpec.ofChange icmpQuietSpec)) icmpQuietCard

/-- THE TIED CARD OF 'weirlaw8.IcmpNdPuts'. -/
def icmpNdPutsCard : Claim7 := { stood := { row := icmpNdPutsRow, standIns := [], harness := (true, "1d035b4423fd050f7c30e00ae06440e5d8214cc3cd824ddab56c721eb093f537"), looks := false }, kinds := [], alts := [], laidByText := true, laidKinds := [.data, .data], laidTests := true, laidLooks := .later }
def IcmpNdPutsCardSaid : Prop := Claim7.holds Tryd.pinned (.plain (OpenSpec.ofChange icmpNdPutsSpec)) icmpNdPutsCard

/-- THE TIED CARD OF 'weirlaw8.IcmpNds'. -/
def icmpNdsCard : Claim7 := { stood := { row := icmpNdsRow, standIns := [], harness := (true, "1d035b4423fd050f7c30e00ae06440e5d8214cc3cd824ddab56c721eb093f537"), looks := false }, kinds := [], alts := [], laidByText := true, laidKinds := [.data, .data], laidTests := true, laidLooks := .later }
def IcmpNdsCardSaid : Prop := Claim7.holds Tryd.pinned (.plain (OpenSpec.ofChange icmpNdsSpec)) icmpNdsCard

/-- THE TIED CARD OF 'weirlaw8.IcmpAgain'. -/
def icmpAgainCard : Claim7 := { stood := { row := icmpAgainRow, standIns := [], harness := (true, "1d035b4423fd050f7c30e00ae06440e5d8214cc3cd824ddab56c721eb093f537"), looks := false }, kinds := [], alts := [], laidByText := true, laidKinds := [.data, .data, .data], laidTests := true, laidLooks := .later }
def IcmpAgainCardSaid : Prop := Claim7.holds Tryd.pinned (.plain (OpenSpec.ofChange icmpAgainSpec)) icmpAgainCard

/-- THE SECOND FORM's CARD OF 'weirlaw8.IcmpNdBack'. -/
def icmpNdBackUptoCard : Claim7 := { stood := { row := icmpNdBackUptoRow, standIns := [], harness := (true, "1d035b4423fd050f7c30e00ae06440e5d8214cc3cd824ddab56c721eb093f537"), looks := false }, kinds := [], alts := [], laidByText := true, laidKinds := [.data, .data], laidTests := true, laidLooks := .later }
def IcmpNdBackUptoCardSaid : Prop := Claim7.holds Tryd.pinned (.plain (OpenSpec.upto icmpNdBackSpec)) icmpNdBackUptoCard

/-- THE SECOND FORM's CARD OF 'weirlaw8.IcmpQuiet'. -/
def icmpQuietUptoCard : Claim7 := { stood := { row := icmpQuietUptoRow, standIns := [], harness := (true, "1d035b4423fd050f7c30e00ae06440e5d8214cc3cd824ddab56c721eb093f537"), looks := false }, kinds := [], alts := [], laidByText := true, laidKinds := [.data, .data, .data, .data, .data, .data, .data], laidTests := true, laidLooks := .later }
def IcmpQuietUptoCardSaid : Prop := Claim7.holds Tryd.pinned (.plain (OpenSpec.upto icmpQuietSpec)) icmpQuietUptoCard

/-- THE SECOND FORM's CARD OF 'weirlaw8.IcmpNdPuts'. -/
def icmpNdPutsUptoCard : Claim7 := { stood := { row := icmpNdPutsUptoRow, standIns := [], harness := (true, "1d035b4423fd050f7c30e00ae06440e5d8214cc3cd824ddab56c721eb093f537"), looks := false }, kinds := [], alts := [], laidByText := true, laidKinds := [.data, .data], laidTests := true, laidLooks := .later }
def IcmpNdPutsUptoCardSaid : Prop := Claim7.holds Tryd.pinned (.plain (OpenSpec.upto icmpNdPutsSpec)) icmpNdPutsUptoCard

/-- THE SECOND FORM's CARD OF 'weirlaw8.IcmpNds'. -/
def icmpNdsUptoCard : Claim7 := { stood := { row := icmpNdsUptoRow, standIns := [], harness := (true, "1d035b4423fd050f7c30e00ae06440e5d8214cc3cd824ddab56c721eb093f537"), looks := false }, kinds := [], alts := [], laidByText := true, laidKinds := [.data, .data], laidTests := true, laidLooks := .later }
def IcmpNdsUptoCardSaid : Prop := Claim7.holds Tryd.pinned (.plain (OpenSpec.upto icmpNdsSpec)) icmpNdsUptoCard

/-- THE SECOND FORM's CARD OF 'weirlaw8.IcmpAgain'. -/
def icmpAgainUptoCard : Claim7 := { stood := { row := icmpAgainUptoRow, standIns := [], harness := (true, "1d035b4423fd050f7c30e00ae06440e5d8214cc3cd824ddab56c721eb093f537"), looks := false }, kinds := [], alts := [], laidByText := true, laidKinds := [.data, .data, .data], laidTests := true, laidLooks := .later }
def IcmpAgainUptoCardSaid : Prop := Claim7.holds Tryd.pinned (.plain (OpenSpec.upto icmpAgainSpec)) icmpAgainUptoCard
end Rows
end Go.Proofs.YtijipfciimcnpaaDoor
