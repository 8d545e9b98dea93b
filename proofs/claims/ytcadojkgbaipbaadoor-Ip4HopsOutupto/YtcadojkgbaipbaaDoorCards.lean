/-
  DERIVED. GIVEN WITH THE SEED: THE CARDS: each row of YtcadojkgbaipbaaDoorRows.lean that lists a variable, with what it lists TIED to the program's text (the seventh form; the later family's looks); each row that meets fmt, with fmt's text TOLD by the authors' own Lean function (tested against real Go, not proved from fmt's source: count such statements apart). THE CARD IS WHAT COUNTS. Prove the row's statement (the work); the ties are given (YtcadojkgbaipbaaDoorTie.lean); close each card by the builder's one call (the guide's Derived/Test/ToyasCard.lean, 'card_holds'). Laid BY PROGRAM, IN A SANDBOX (cutbox-door.mjs). By AI agents, Wed Nov 11 2026. No macro, syntax, notation, axiom, sorry.
-/
import Derived.Test.YtcadojkgbaipbaaDoorRows
import GoSem.ClaimSeven
namespace Go.Proofs.YtcadojkgbaipbaaDoor
namespace Rows

/-- THE TIED CARD OF 'weirlaw6.Ip4OneBit'. -/
def ip4OneBitCard : Claim7 := { stood := { row := ip4OneBitRow, standIns := [], harness := (true, "3814c1fdb202907643dc7ba940520720e88c49c9ab6efb1e8fbb11d74a7a56db"), looks := false }, kinds := [], alts := [], laidByText := true, laidKinds := [.data], laidTests := true, laidLooks := .later }
def Ip4OneBitCardSaid : Prop := Claim7.holds Tryd.pinned (.plain (OpenSpec.ofChange ip4OneBitSpec)) ip4OneBitCard

/-- THE TIED CARD OF 'weirlaw6.Ip4OneForm'. -/
def ip4OneFormCard : Claim7 := { stood := { row := ip4OneFormRow, standIns := [], harness := (true, "3814c1fdb202907643dc7ba940520720e88c49c9ab6efb1e8fbb11d74a7a56db"), looks := false }, kinds := [], alts := [], laidByText := true, laidKinds := [.data], laidTests := true, laidLooks := .later }
def Ip4OneFormCardSaid : Prop := Claim7.holds Tryd.pinned (.plain (OpenSpec.ofChange ip4OneFormSpec)) ip4OneFormCard

/-- THE TIED CARD OF 'weirlaw6.Ip4Window'. -/
def ip4WindowCard : Claim7 := { stood := { row := ip4WindowRow, standIns := [], harness := (true, "3814c1fdb202907643dc7ba940520720e88c49c9ab6efb1e8fbb11d74a7a56db"), looks := false }, kinds := [], alts := [], laidByText := true, laidKinds := [.data], laidTests := true, laidLooks := .later }
def Ip4WindowCardSaid : Prop := Claim7.holds Tryd.pinned (.plain (OpenSpec.ofChange ip4WindowSpec)) ip4WindowCard

/-- THE TIED CARD OF 'weirlaw6.Ip4HopsOut'. -/
def ip4HopsOutCard : Claim7 := { stood := { row := ip4HopsOutRow, standIns := [], harness := (true, "3814c1fdb202907643dc7ba940520720e88c49c9ab6efb1e8fbb11d74a7a56db"), looks := false }, kinds := [], alts := [], laidByText := true, laidKinds := [.data], laidTests := true, laidLooks := .later }
def Ip4HopsOutCardSaid : Prop := Claim7.holds Tryd.pinned (.plain (OpenSpec.ofChange ip4HopsOutSpec)) ip4HopsOutCard

/-- THE TIED CARD OF 'weirlaw6.Ip4Back'. -/
def ip4BackCard : Claim7 := { stood := { row := ip4BackRow, standIns := [], harness := (true, "3814c1fdb202907643dc7ba940520720e88c49c9ab6efb1e8fbb11d74a7a56db"), looks := false }, kinds := [], alts := [], laidByText := true, laidKinds := [.data], laidTests := true, laidLooks := .later }
def Ip4BackCardSaid : Prop := Claim7.holds Tryd.pinned (.plain (OpenSpec.ofChange ip4BackSpec)) ip4BackCard

/-- THE TIED CARD OF 'weirlaw6.Ip4Own'. -/
def ip4OwnCard : Claim7 := { stood := { row := ip4OwnRow, standIns := [], harness := (true, "3814c1fdb202907643dc7ba940520720e88c49c9ab6efb1e8fbb11d74a7a56db"), looks := false }, kinds := [], alts := [], laidByText := true, laidKinds := [.data], laidTests := true, laidLooks := .later }
def Ip4OwnCardSaid : Prop := Claim7.holds Tryd.pinned (.plain (OpenSpec.ofChange ip4OwnSpec)) ip4OwnCard

/-- THE SECOND FORM's CARD OF 'weirlaw6.Ip4OneBit'. -/
def ip4OneBitUptoCard : Claim7 := { stood := { row := ip4OneBitUptoRow, standIns := [], harness := (true, "3814c1fdb202907643dc7ba940520720e88c49c9ab6efb1e8fbb11d74a7a56db"), looks := false }, kinds := [], alts := [], laidByText := true, laidKinds := [.data], laidTests := true, laidLooks := .later }
def Ip4OneBitUptoCardSaid : Prop := Claim7.holds Tryd.pinned (.plain (OpenSpec.upto ip4OneBitSpec)) ip4OneBitUptoCard

/-- THE SECOND FORM's CARD OF 'weirlaw6.Ip4OneForm'. -/
def ip4OneFormUptoCard : Claim7 := { stood := { row := ip4OneFormUptoRow, standIns := [], harness := (true, "3814c1fdb202907643dc7ba940520720e88c49c9ab6efb1e8fbb11d74a7a56db"), looks := false }, kinds := [], alts := [], laidByText := true, laidKinds := [.data], laidTests := true, laidLooks := .later }
def Ip4OneFormUptoCardSaid : Prop := Claim7.holds Tryd.pinned (.plain (OpenSpec.upto ip4OneFormSpec)) ip4OneFormUptoCard

/-- THE SECOND FORM's CARD OF 'weirlaw6.Ip4Window'. -/
def ip4WindowUptoCard : Claim7 := { stood := { row := ip4WindowUptoRow, standIns := [], harness := (true, "3814c1fdb202907643dc7ba940520720e88c49c9ab6efb1e8fbb11d74a7a56db"), looks := false }, kinds := [], alts := [], laidByText := true, laidKinds := [.data], laidTests := true, laidLooks := .later }
def Ip4WindowUptoCardSaid : Prop := Claim7.holds Tryd.pinned (.plain (OpenSpec.upto ip4WindowSpec)) ip4WindowUptoCard

/-- THE SECOND FORM's CARD OF 'weirlaw6.Ip4HopsOut'. -/
def ip4HopsOutUptoCard : Claim7 := { stood := { row := ip4HopsOutUptoRow, standIns := [], harness := (true, "3814c1fdb202907643dc7ba940520720e88c49c9ab6efb1e8fbb11d74a7a56db"), looks := false }, kinds := [], alts := [], laidByText := true, laidKinds := [.data], laidTests := true, laidLooks := .later }
def Ip4HopsOutUptoCardSaid : Prop := Claim7.holds Tryd.pinned (.plain (OpenSpec.upto ip4HopsOutSpec)) ip4HopsOutUptoCard

/-- THE SECOND FORM's CARD OF 'weirlaw6.Ip4Back'. -/
def ip4BackUptoCard : Claim7 := { stood := { row := ip4BackUptoRow, standIns := [], harness := (true, "3814c1fdb202907643dc7ba940520720e88c49c9ab6efb1e8fbb11d74a7a56db"), looks := false }, kinds := [], alts := [], laidByText := true, laidKinds := [.data], laidTests := true, laidLooks := .later }
def Ip4BackUptoCardSaid : Prop := Claim7.holds Tryd.pinned (.plain (OpenSpec.upto ip4BackSpec)) ip4BackUptoCard

/-- THE SECOND FORM's CARD OF 'weirlaw6.Ip4Own'. -/
def ip4OwnUptoCard : Claim7 := { stood := { row := ip4OwnUptoRow, standIns := [], harness := (true, "3814c1fdb202907643dc7ba940520720e88c49c9ab6efb1e8fbb11d74a7a56db"), looks := false }, kinds := [], alts := [], laidByText := true, laidKinds := [.data], laidTests := true, laidLooks := .later }
def Ip4OwnUptoCardSaid : Prop := Claim7.holds Tryd.pinned (.plain (OpenSpec.upto ip4OwnSpec)) ip4OwnUptoCard
end Rows
end Go.Proofs.YtcadojkgbaipbaaDoor
