/-
  NARROWER THAN 'FOR EVERY INPUT', by the rows' own cells (each row's printed sentence says how): L4Again: laid.
  DERIVED. THE GIVEN ROWS OF THIS SEAT. 1 by the template 'for every input the law returns true; each argument reads behind the call as it read before'; 0 by the template 'total and deterministic' (their statements: YtfoeepbndfnifaaDoorTotals.lean).
  GIVEN WITH THE SEED: the statements are not yours to turn. If you find one false, say at which input.
  Laid BY PROGRAM, IN A SANDBOX (cutbox-rows.mjs): the forced cells as the released guide's own fill.sh prints them over the translation a5c8d0de0e9d1ea5… (all of the seat's roots in one cut). By AI agents, Wed Nov 11 2026. No macro, syntax, notation, axiom, sorry.
-/
import Derived.Test.YtfoeepbndfnifaaDoorChecked
import GoSem.Claim
import GoSem.ClaimJoined
import GoSem.ClaimMapViews
import Derived.JoinedTies
import Derived.KernelRfl
namespace Go.Proofs.YtfoeepbndfnifaaDoor
/- THE CELL 'sum', in the pinned program and in every row, IS THE sha256 OF THE DUMP (.gsa) THAT YtfoeepbndfnifaaDoorProg.lean LOADS. Nothing in Lean hashes anything: it is a label: what it is worth is what the hold of that sum in a sandbox is worth. -/
noncomputable def Tryd.pinned : Pinned := { name := "ytfoeepbndfnifaadoor", sum := "a5c8d0de0e9d1ea5fe4c386ac26ee758ac33a46a1da7b62b7dd3583f44186dfa", checked := Tryd.checked }
namespace Rows
def none {H : Type} : Left H := { results := [], args := [] }

/- WHAT THE LISTED PACKAGE-LEVEL VARIABLES READ AS WHEN THE CALL BEGINS. Each datum BY PROGRAM (the guide's laid-datum.mjs) off the statement by which the dump's own 'gosem.cut.vars' lays the variable. In a bare row this is a premise. The card (YtfoeepbndfnifaaDoorCards.lean) ties it to the program's text. -/
def laid_weir_l4_lengths {H : Type} : DataW H := .agg [.agg [.lit (.int .i64 2), .lit (.int .i64 4)], .agg [.lit (.int .i64 3), .lit (.int .i64 3)], .agg [.lit (.int .i64 4), .lit (.int .i64 2)], .agg [.lit (.int .i64 5), .lit (.int .i64 10)], .agg [.lit (.int .i64 5), .lit (.int .i64 18)], .agg [.lit (.int .i64 5), .lit (.int .i64 26)], .agg [.lit (.int .i64 5), .lit (.int .i64 34)], .agg [.lit (.int .i64 8), .lit (.int .i64 10)]]
def laid_weir_l4_tcpWidths {H : Type} : DataW H := .agg [.lit (.int .i64 16), .lit (.int .i64 16), .lit (.int .i64 32), .lit (.int .i64 32), .lit (.int .i64 4), .lit (.int .i64 4), .lit (.int .i64 8), .lit (.int .i64 16), .lit (.int .i64 16), .lit (.int .i64 16)]
def laid_weir_l4_udpWidths {H : Type} : DataW H := .agg [.lit (.int .i64 16), .lit (.int .i64 16), .lit (.int .i64 16), .lit (.int .i64 16)]

/-- 'weirlaw9.L4Again': WHATEVER THE INPUT: true; the input reads as it did. -/
def l4AgainSpec : ChangeSpec := { name := "l4Again", fn := fun _ => fun
  | [d1, d2, d3, d4] => { results := [.lit (.bool true)], args := [d1, d2, d3, d4] }
  | _ => none }
def l4AgainRow : OpenClaim := { program := "ytfoeepbndfnifaadoor", sum := "a5c8d0de0e9d1ea5fe4c386ac26ee758ac33a46a1da7b62b7dd3583f44186dfa", func := "weir/weirlaw9.L4Again", spec := "l4Again", unfollowed := true, recurses := true, named := ["weir/l4.udpWidths", "weir/l4.tcpWidths", "weir/l4.lengths"], apart := false, laid := [("weir/l4.lengths", laid_weir_l4_lengths), ("weir/l4.tcpWidths", laid_weir_l4_tcpWidths), ("weir/l4.udpWidths", laid_weir_l4_udpWidths)] }
def L4AgainSaid : Prop := l4AgainRow.holds Tryd.pinned (OpenSpec.ofChange l4AgainSpec)

/-- ITS FALSE NEIGHBOUR: 'it returns false'. Refute it at one input. -/
def l4AgainWrong : ChangeSpec := { name := "l4Again", fn := fun _ => fun
  | [d1, d2, d3, d4] => { results := [.lit (.bool false)], args := [d1, d2, d3, d4] }
  | _ => none }
def L4AgainWrongFalsely : Prop := l4AgainRow.holds Tryd.pinned (OpenSpec.ofChange l4AgainWrong)

/- THE SECOND FORM. 'bulk': how many values and letters a reading holds, each counted each time it is reached (what is shared counts as often as it is met; a slice's spare places count too). A statement '..UptoSaid' is the law's where the arguments, and the package variables that the reading takes, are together of bulk at most 1048576: NARROWER than '..Said'. Prove '..Said' where nothing that the law and all that it calls make is longer than what came in: it says more and counts as full. Else prove '..UptoSaid'. A law counts once. -/
mutual
def uptoBulk {H : Type} : DataW H → Nat
  | .lit (.string bytes) => bytes.length + 1
  | .lit _ => 1
  | .nil => 1
  | .ptr d => uptoBulk d + 1
  | .slice elems spare => uptoBulkAll elems + uptoBulkAll spare + 1
  | .agg parts => uptoBulkAll parts + 1
  | .iface _ d => uptoBulk d + 1
  | .map entries => uptoBulkEntries entries + 1
  | .held _ => 1
def uptoBulkAll {H : Type} : List (DataW H) → Nat
  | [] => 0
  | d :: r => uptoBulk d + uptoBulkAll r
def uptoBulkEntries {H : Type} : List (Lit × DataW H) → Nat
  | [] => 0
  | x :: r => uptoBulkEntry x + uptoBulkEntries r
def uptoBulkEntry {H : Type} : Lit × DataW H → Nat
  | (.string bytes, d) => bytes.length + uptoBulk d + 1
  | (_, d) => uptoBulk d + 1
 end
def uptoSmall : (H : Type) → List (DataW H) → Bool := fun _ ds => decide (uptoBulkAll ds ≤ 1048576)
def OpenSpec.upto (s : _root_.Go.ChangeSpec) : _root_.Go.OpenSpec := { _root_.Go.OpenSpec.ofChange s with cond := some uptoSmall }

/-- 'weirlaw9.L4Again', WHERE WHAT IT READS IS OF BULK AT MOST 1048576: true; the input reads as it did. -/
def l4AgainUptoRow : OpenClaim := { program := "ytfoeepbndfnifaadoor", sum := "a5c8d0de0e9d1ea5fe4c386ac26ee758ac33a46a1da7b62b7dd3583f44186dfa", func := "weir/weirlaw9.L4Again", spec := "l4Again", unfollowed := true, recurses := true, named := ["weir/l4.udpWidths", "weir/l4.tcpWidths", "weir/l4.lengths"], apart := false, laid := [("weir/l4.lengths", laid_weir_l4_lengths), ("weir/l4.tcpWidths", laid_weir_l4_tcpWidths), ("weir/l4.udpWidths", laid_weir_l4_udpWidths)], narrowed := true }
def L4AgainUptoSaid : Prop := l4AgainUptoRow.holds Tryd.pinned (OpenSpec.upto l4AgainSpec)

end Rows
end Go.Proofs.YtfoeepbndfnifaaDoor
