/-
  DERIVED. GIVEN WITH THE SEED: THE CARDS: each row of YtmeieggnfmhnmaaDoorRows.lean that lists a variable, with what it lists TIED to the program's text (the seventh form; the later family's looks); each row that meets fmt, with fmt's text TOLD by the authors' own Lean function (tested against real Go, not proved from fmt's source: count such statements apart). THE CARD IS WHAT COUNTS. Prove the row's statement (the work); the ties are given (YtmeieggnfmhnmaaDoorTie.lean); close each card by the builder's one call (the guide's Derived/Test/ToyasCard.lean, 'card_holds'). Laid BY PROGRAM, IN A SANDBOX (cutbox-door.mjs). By AI agents, Wed Nov 11 2026. No macro, syntax, notation, axiom, sorry.
-/
import Derived.Test.YtmeieggnfmhnmaaDoorRows
import GoSem.ClaimSeven
namespace Go.Proofs.YtmeieggnfmhnmaaDoor
namespace Rows

/-- THE TIED CARD OF 'weirlaw9.L4OneForm'. -/
def l4OneFormCard : Claim7 := { stood := { row := l4OneFormRow, standIns := [], harness := (true, "29e89bb25d417f41805f4964a75d0bdc2973175cbae729102aa84685ba89c165"), looks := false }, kinds := [], alts := [], laidByText := true, laidKinds := [.data, .data, .data], laidTests := true, laidLooks := .later }
def L4OneFormCardSaid : Prop := Claim7.holds Tryd.pinned (.plain (OpenSpec.ofChange l4OneFormSpec)) l4OneFormCard

/-- THE TIED CARD OF 'weirlaw9.L4Ends'. -/
def l4EndsCard : Claim7 := { stood := { row := l4EndsRow, standIns := [], harness := (true, "29e89bb25d417f41805f4964a75d0bdc2973175cbae729102aa84685ba89c165"), looks := false }, kinds := [], alts := [], laidByText := true, laidKinds := [.data, .data, .data], laidTests := true, laidLooks := .later }
def L4EndsCardSaid : Prop := Claim7.holds Tryd.pinned (.plain (OpenSpec.ofChange l4EndsSpec)) l4EndsCard

/-- THE TIED CARD OF 'weirlaw9.L4Clamped'. -/
def l4ClampedCard : Claim7 := { stood := { row := l4ClampedRow, standIns := [], harness := (true, "29e89bb25d417f41805f4964a75d0bdc2973175cbae729102aa84685ba89c165"), looks := false }, kinds := [], alts := [], laidByText := true, laidKinds := [.data, .data, .data], laidTests := true, laidLooks := .later }
def L4ClampedCardSaid : Prop := Claim7.holds Tryd.pinned (.plain (OpenSpec.ofChange l4ClampedSpec)) l4ClampedCard

/-- THE TIED CARD OF 'weirlaw9.L4OneBit'. -/
def l4OneBitCard : Claim7 := { stood := { row := l4OneBitRow, standIns := [], harness := (true, "29e89bb25d417f41805f4964a75d0bdc2973175cbae729102aa84685ba89c165"), looks := false }, kinds := [], alts := [], laidByText := true, laidKinds := [.data, .data, .data], laidTests := true, laidLooks := .later }
def L4OneBitCardSaid : Prop := Claim7.holds Tryd.pinned (.plain (OpenSpec.ofChange l4OneBitSpec)) l4OneBitCard

/-- THE TIED CARD OF 'weirlaw9.L4Window'. -/
def l4WindowCard : Claim7 := { stood := { row := l4WindowRow, standIns := [], harness := (true, "29e89bb25d417f41805f4964a75d0bdc2973175cbae729102aa84685ba89c165"), looks := false }, kinds := [], alts := [], laidByText := true, laidKinds := [.data, .data, .data], laidTests := true, laidLooks := .later }
def L4WindowCardSaid : Prop := Claim7.holds Tryd.pinned (.plain (OpenSpec.ofChange l4WindowSpec)) l4WindowCard

/-- THE TIED CARD OF 'weirlaw9.L4Own'. -/
def l4OwnCard : Claim7 := { stood := { row := l4OwnRow, standIns := [], harness := (true, "29e89bb25d417f41805f4964a75d0bdc2973175cbae729102aa84685ba89c165"), looks := false }, kinds := [], alts := [], laidByText := true, laidKinds := [.data, .data, .data], laidTests := true, laidLooks := .later }
def L4OwnCardSaid : Prop := Claim7.holds Tryd.pinned (.plain (OpenSpec.ofChange l4OwnSpec)) l4OwnCard

/-- THE TIED CARD OF 'weirlaw9.L4Again'. -/
def l4AgainCard : Claim7 := { stood := { row := l4AgainRow, standIns := [], harness := (true, "29e89bb25d417f41805f4964a75d0bdc2973175cbae729102aa84685ba89c165"), looks := false }, kinds := [], alts := [], laidByText := true, laidKinds := [.data, .data, .data], laidTests := true, laidLooks := .later }
def L4AgainCardSaid : Prop := Claim7.holds Tryd.pinned (.plain (OpenSpec.ofChange l4AgainSpec)) l4AgainCard

/-- THE SECOND FORM's CARD OF 'weirlaw9.L4OneForm'. -/
def l4OneFormUptoCard : Claim7 := { stood := { row := l4OneFormUptoRow, standIns := [], harness := (true, "29e89bb25d417f41805f4964a75d0bdc2973175cbae729102aa84685ba89c165"), looks := false }, kinds := [], alts := [], laidByText := true, laidKinds := [.data, .data, .data], laidTests := true, laidLooks := .later }
def L4OneFormUptoCardSaid : Prop := Claim7.holds Tryd.pinned (.plain (OpenSpec.upto l4OneFormSpec)) l4OneFormUptoCard

/-- THE SECOND FORM's CARD OF 'weirlaw9.L4Ends'. -/
def l4EndsUptoCard : Claim7 := { stood := { row := l4EndsUptoRow, standIns := [], harness := (true, "29e89bb25d417f41805f4964a75d0bdc2973175cbae729102aa84685ba89c165"), looks := false }, kinds := [], alts := [], laidByText := true, laidKinds := [.data, .data, .data], laidTests := true, laidLooks := .later }
def L4EndsUptoCardSaid : Prop := Claim7.holds Tryd.pinned (.plain (OpenSpec.upto l4EndsSpec)) l4EndsUptoCard

/-- THE SECOND FORM's CARD OF 'weirlaw9.L4Clamped'. -/
def l4ClampedUptoCard : Claim7 := { stood := { row := l4ClampedUptoRow, standIns := [], harness := (true, "29e89bb25d417f41805f4964a75d0bdc2973175cbae729102aa84685ba89c165"), looks := false }, kinds := [], alts := [], laidByText := true, laidKinds := [.data, .data, .data], laidTests := true, laidLooks := .later }
def L4ClampedUptoCardSaid : Prop := Claim7.holds Tryd.pinned (.plain (OpenSpec.upto l4ClampedSpec)) l4ClampedUptoCard

/-- THE SECOND FORM's CARD OF 'weirlaw9.L4OneBit'. -/
def l4OneBitUptoCard : Claim7 := { stood := { row := l4OneBitUptoRow, standIns := [], harness := (true, "29e89bb25d417f41805f4964a75d0bdc2973175cbae729102aa84685ba89c165"), looks := false }, kinds := [], alts := [], laidByText := true, laidKinds := [.data, .data, .data], laidTests := true, laidLooks := .later }
def L4OneBitUptoCardSaid : Prop := Claim7.holds Tryd.pinned (.plain (OpenSpec.upto l4OneBitSpec)) l4OneBitUptoCard

/-- THE SECOND FORM's CARD OF 'weirlaw9.L4Window'. -/
def l4WindowUptoCard : Claim7 := { stood := { row := l4WindowUptoRow, standIns := [], harness := (true, "29e89bb25d417f41805f4964a75d0bdc2973175cbae729102aa84685ba89c165"), looks := false }, kinds := [], alts := [], laidByText := true, laidKinds := [.data, .data, .data], laidTests := true, laidLooks := .later }
def L4WindowUptoCardSaid : Prop := Claim7.holds Tryd.pinned (.plain (OpenSpec.upto l4WindowSpec)) l4WindowUptoCard

/-- THE SECOND FORM's CARD OF 'weirlaw9.L4Own'. -/
def l4OwnUptoCard : Claim7 := { stood := { row := l4OwnUptoRow, standIns := [], harness := (true, "29e89bb25d417f41805f4964a75d0bdc2973175cbae729102aa84685ba89c165"), looks := false }, kinds := [], alts := [], laidByText := true, laidKinds := [.data, .data, .data], laidTests := true, laidLooks := .later }
def L4OwnUptoCardSaid : Prop := Claim7.holds Tryd.pinned (.plain (OpenSpec.upto l4OwnSpec)) l4OwnUptoCard

/-- THE SECOND FORM's CARD OF 'weirlaw9.L4Again'. -/
def l4AgainUptoCard : Claim7 := { stood := { row := l4AgainUptoRow, standIns := [], harness := (true, "29e89bb25d417f41805f4964a75d0bdc2973175cbae729102aa84685ba89c165"), looks := false }, kinds := [], alts := [], laidByText := true, laidKinds := [.data, .data, .data], laidTests := true, laidLooks := .later }
def L4AgainUptoCardSaid : Prop := Claim7.holds Tryd.pinned (.plain (OpenSpec.upto l4AgainSpec)) l4AgainUptoCard
end Rows
end Go.Proofs.YtmeieggnfmhnmaaDoor
