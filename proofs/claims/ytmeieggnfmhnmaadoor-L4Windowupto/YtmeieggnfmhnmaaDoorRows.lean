/-
  NARROWER THAN 'FOR EVERY INPUT', by the rows' own cells (each row's printed sentence says how): L4OneForm: laid · L4Ends: laid · L4Clamped: laid · L4OneBit: laid · L4Window: laid · L4Own: laid · L4Again: laid.
  DERIVED. THE GIVEN ROWS OF THIS SEAT. 7 by the template 'for every input the law returns true; each argument reads behind the call as it read before'; 0 by the template 'total and deterministic' (their statements: YtmeieggnfmhnmaaDoorTotals.lean).
  GIVEN WITH THE SEED: the statements are not yours to turn. If you find one false, say at which input.
  Laid BY PROGRAM, IN A SANDBOX (cutbox-rows.mjs): the forced cells as the released guide's own fill.sh prints them over the translation 512f3b470e725e2d… (all of the seat's roots in one cut). By AI agents, Wed Nov 11 2026. No macro, syntax, notation, axiom, sorry.
-/
import Derived.Test.YtmeieggnfmhnmaaDoorChecked
import GoSem.Claim
import GoSem.ClaimJoined
import GoSem.ClaimMapViews
import Derived.JoinedTies
import Derived.KernelRfl
namespace Go.Proofs.YtmeieggnfmhnmaaDoor
/- THE CELL 'sum', in the pinned program and in every row, IS THE sha256 OF THE DUMP (.gsa) THAT YtmeieggnfmhnmaaDoorProg.lean LOADS. Nothing in Lean hashes anything: it is a label: what it is worth is what the hold of that sum in a sandbox is worth. -/
noncomputable def Tryd.pinned : Pinned := { name := "ytmeieggnfmhnmaadoor", sum := "512f3b470e725e2d3cdb552460f9bf119ab41138d872383afbdafdf8f32b6c18", checked := Tryd.checked }
namespace Rows
def none {H : Type} : Left H := { results := [], args := [] }

/- WHAT THE LISTED PACKAGE-LEVEL VARIABLES READ AS WHEN THE CALL BEGINS. Each datum BY PROGRAM (the guide's laid-datum.mjs) off the statement by which the dump's own 'gosem.cut.vars' lays the variable. In a bare row this is a premise. The card (YtmeieggnfmhnmaaDoorCards.lean) ties it to the program's text. -/
def laid_weir_l4_lengths {H : Type} : DataW H := .agg [.agg [.lit (.int .i64 2), .lit (.int .i64 4)], .agg [.lit (.int .i64 3), .lit (.int .i64 3)], .agg [.lit (.int .i64 4), .lit (.int .i64 2)], .agg [.lit (.int .i64 5), .lit (.int .i64 10)], .agg [.lit (.int .i64 5), .lit (.int .i64 18)], .agg [.lit (.int .i64 5), .lit (.int .i64 26)], .agg [.lit (.int .i64 5), .lit (.int .i64 34)], .agg [.lit (.int .i64 8), .lit (.int .i64 10)]]
def laid_weir_l4_tcpWidths {H : Type} : DataW H := .agg [.lit (.int .i64 16), .lit (.int .i64 16), .lit (.int .i64 32), .lit (.int .i64 32), .lit (.int .i64 4), .lit (.int .i64 4), .lit (.int .i64 8), .lit (.int .i64 16), .lit (.int .i64 16), .lit (.int .i64 16)]
def laid_weir_l4_udpWidths {H : Type} : DataW H := .agg [.lit (.int .i64 16), .lit (.int .i64 16), .lit (.int .i64 16), .lit (.int .i64 16)]

/-- 'weirlaw9.L4OneForm': WHATEVER THE INPUT: true; the input reads as it did. -/
def l4OneFormSpec : ChangeSpec := { name := "l4OneForm", fn := fun _ => fun
  | [d1, d2, d3] => { results := [.lit (.bool true)], args := [d1, d2, d3] }
  | _ => none }
def l4OneFormRow : OpenClaim := { program := "ytmeieggnfmhnmaadoor", sum := "512f3b470e725e2d3cdb552460f9bf119ab41138d872383afbdafdf8f32b6c18", func := "weir/weirlaw9.L4OneForm", spec := "l4OneForm", unfollowed := true, recurses := true, named := ["weir/l4.udpWidths", "weir/l4.tcpWidths", "weir/l4.lengths"], apart := false, laid := [("weir/l4.lengths", laid_weir_l4_lengths), ("weir/l4.tcpWidths", laid_weir_l4_tcpWidths), ("weir/l4.udpWidths", laid_weir_l4_udpWidths)] }
def L4OneFormSaid : Prop := l4OneFormRow.holds Tryd.pinned (OpenSpec.ofChange l4OneFormSpec)

/-- ITS FALSE NEIGHBOUR: 'it returns false'. Refute it at one input. -/
def l4OneFormWrong : ChangeSpec := { name := "l4OneForm", fn := fun _ => fun
  | [d1, d2, d3] => { results := [.lit (.bool false)], args := [d1, d2, d3] }
  | _ => none }
def L4OneFormWrongFalsely : Prop := l4OneFormRow.holds Tryd.pinned (OpenSpec.ofChange l4OneFormWrong)

/-- 'weirlaw9.L4Ends': WHATEVER THE INPUT: true; the input reads as it did. -/
def l4EndsSpec : ChangeSpec := { name := "l4Ends", fn := fun _ => fun
  | [d1, d2, d3, d4, d5] => { results := [.lit (.bool true)], args := [d1, d2, d3, d4, d5] }
  | _ => none }
def l4EndsRow : OpenClaim := { program := "ytmeieggnfmhnmaadoor", sum := "512f3b470e725e2d3cdb552460f9bf119ab41138d872383afbdafdf8f32b6c18", func := "weir/weirlaw9.L4Ends", spec := "l4Ends", unfollowed := true, recurses := true, named := ["weir/l4.udpWidths", "weir/l4.tcpWidths", "weir/l4.lengths"], apart := false, laid := [("weir/l4.lengths", laid_weir_l4_lengths), ("weir/l4.tcpWidths", laid_weir_l4_tcpWidths), ("weir/l4.udpWidths", laid_weir_l4_udpWidths)] }
def L4EndsSaid : Prop := l4EndsRow.holds Tryd.pinned (OpenSpec.ofChange l4EndsSpec)

/-- ITS FALSE NEIGHBOUR: 'it returns false'. Refute it at one input. -/
def l4EndsWrong : ChangeSpec := { name := "l4Ends", fn := fun _ => fun
  | [d1, d2, d3, d4, d5] => { results := [.lit (.bool false)], args := [d1, d2, d3, d4, d5] }
  | _ => none }
def L4EndsWrongFalsely : Prop := l4EndsRow.holds Tryd.pinned (OpenSpec.ofChange l4EndsWrong)

/-- 'weirlaw9.L4Clamped': WHATEVER THE INPUT: true; the input reads as it did. -/
def l4ClampedSpec : ChangeSpec := { name := "l4Clamped", fn := fun _ => fun
  | [d1, d2] => { results := [.lit (.bool true)], args := [d1, d2] }
  | _ => none }
def l4ClampedRow : OpenClaim := { program := "ytmeieggnfmhnmaadoor", sum := "512f3b470e725e2d3cdb552460f9bf119ab41138d872383afbdafdf8f32b6c18", func := "weir/weirlaw9.L4Clamped", spec := "l4Clamped", unfollowed := true, recurses := true, named := ["weir/l4.udpWidths", "weir/l4.tcpWidths", "weir/l4.lengths"], apart := false, laid := [("weir/l4.lengths", laid_weir_l4_lengths), ("weir/l4.tcpWidths", laid_weir_l4_tcpWidths), ("weir/l4.udpWidths", laid_weir_l4_udpWidths)] }
def L4ClampedSaid : Prop := l4ClampedRow.holds Tryd.pinned (OpenSpec.ofChange l4ClampedSpec)

/-- ITS FALSE NEIGHBOUR: 'it returns false'. Refute it at one input. -/
def l4ClampedWrong : ChangeSpec := { name := "l4Clamped", fn := fun _ => fun
  | [d1, d2] => { results := [.lit (.bool false)], args := [d1, d2] }
  | _ => none }
def L4ClampedWrongFalsely : Prop := l4ClampedRow.holds Tryd.pinned (OpenSpec.ofChange l4ClampedWrong)

/-- 'weirlaw9.L4OneBit': WHATEVER THE INPUT: true; the input reads as it did. -/
def l4OneBitSpec : ChangeSpec := { name := "l4OneBit", fn := fun _ => fun
  | [d1, d2, d3, d4, d5] => { results := [.lit (.bool true)], args := [d1, d2, d3, d4, d5] }
  | _ => none }
def l4OneBitRow : OpenClaim := { program := "ytmeieggnfmhnmaadoor", sum := "512f3b470e725e2d3cdb552460f9bf119ab41138d872383afbdafdf8f32b6c18", func := "weir/weirlaw9.L4OneBit", spec := "l4OneBit", unfollowed := true, recurses := true, named := ["weir/l4.udpWidths", "weir/l4.tcpWidths", "weir/l4.lengths"], apart := false, laid := [("weir/l4.lengths", laid_weir_l4_lengths), ("weir/l4.tcpWidths", laid_weir_l4_tcpWidths), ("weir/l4.udpWidths", laid_weir_l4_udpWidths)] }
def L4OneBitSaid : Prop := l4OneBitRow.holds Tryd.pinned (OpenSpec.ofChange l4OneBitSpec)

/-- ITS FALSE NEIGHBOUR: 'it returns false'. Refute it at one input. -/
def l4OneBitWrong : ChangeSpec := { name := "l4OneBit", fn := fun _ => fun
  | [d1, d2, d3, d4, d5] => { results := [.lit (.bool false)], args := [d1, d2, d3, d4, d5] }
  | _ => none }
def L4OneBitWrongFalsely : Prop := l4OneBitRow.holds Tryd.pinned (OpenSpec.ofChange l4OneBitWrong)

/-- 'weirlaw9.L4Window': WHATEVER THE INPUT: true; the input reads as it did. -/
def l4WindowSpec : ChangeSpec := { name := "l4Window", fn := fun _ => fun
  | [d1, d2, d3, d4] => { results := [.lit (.bool true)], args := [d1, d2, d3, d4] }
  | _ => none }
def l4WindowRow : OpenClaim := { program := "ytmeieggnfmhnmaadoor", sum := "512f3b470e725e2d3cdb552460f9bf119ab41138d872383afbdafdf8f32b6c18", func := "weir/weirlaw9.L4Window", spec := "l4Window", unfollowed := true, recurses := true, named := ["weir/l4.udpWidths", "weir/l4.tcpWidths", "weir/l4.lengths"], apart := false, laid := [("weir/l4.lengths", laid_weir_l4_lengths), ("weir/l4.tcpWidths", laid_weir_l4_tcpWidths), ("weir/l4.udpWidths", laid_weir_l4_udpWidths)] }
def L4WindowSaid : Prop := l4WindowRow.holds Tryd.pinned (OpenSpec.ofChange l4WindowSpec)

/-- ITS FALSE NEIGHBOUR: 'it returns false'. Refute it at one input. -/
def l4WindowWrong : ChangeSpec := { name := "l4Window", fn := fun _ => fun
  | [d1, d2, d3, d4] => { results := [.lit (.bool false)], args := [d1, d2, d3, d4] }
  | _ => none }
def L4WindowWrongFalsely : Prop := l4WindowRow.holds Tryd.pinned (OpenSpec.ofChange l4WindowWrong)

/-- 'weirlaw9.L4Own': WHATEVER THE INPUT: true; the input reads as it did. -/
def l4OwnSpec : ChangeSpec := { name := "l4Own", fn := fun _ => fun
  | [d1, d2, d3, d4, d5] => { results := [.lit (.bool true)], args := [d1, d2, d3, d4, d5] }
  | _ => none }
def l4OwnRow : OpenClaim := { program := "ytmeieggnfmhnmaadoor", sum := "512f3b470e725e2d3cdb552460f9bf119ab41138d872383afbdafdf8f32b6c18", func := "weir/weirlaw9.L4Own", spec := "l4Own", unfollowed := true, recurses := true, named := ["weir/l4.udpWidths", "weir/l4.tcpWidths", "weir/l4.lengths"], apart := false, laid := [("weir/l4.lengths", laid_weir_l4_lengths), ("weir/l4.tcpWidths", laid_weir_l4_tcpWidths), ("weir/l4.udpWidths", laid_weir_l4_udpWidths)] }
def L4OwnSaid : Prop := l4OwnRow.holds Tryd.pinned (OpenSpec.ofChange l4OwnSpec)

/-- ITS FALSE NEIGHBOUR: 'it returns false'. Refute it at one input. -/
def l4OwnWrong : ChangeSpec := { name := "l4Own", fn := fun _ => fun
  | [d1, d2, d3, d4, d5] => { results := [.lit (.bool false)], args := [d1, d2, d3, d4, d5] }
  | _ => none }
def L4OwnWrongFalsely : Prop := l4OwnRow.holds Tryd.pinned (OpenSpec.ofChange l4OwnWrong)

/-- 'weirlaw9.L4Again': WHATEVER THE INPUT: true; the input reads as it did. -/
def l4AgainSpec : ChangeSpec := { name := "l4Again", fn := fun _ => fun
  | [d1, d2, d3, d4] => { results := [.lit (.bool true)], args := [d1, d2, d3, d4] }
  | _ => none }
def l4AgainRow : OpenClaim := { program := "ytmeieggnfmhnmaadoor", sum := "512f3b470e725e2d3cdb552460f9bf119ab41138d872383afbdafdf8f32b6c18", func := "weir/weirlaw9.L4Again", spec := "l4Again", unfollowed := true, recurses := true, named := ["weir/l4.udpWidths", "weir/l4.tcpWidths", "weir/l4.lengths"], apart := false, laid := [("weir/l4.lengths", laid_weir_l4_lengths), ("weir/l4.tcpWidths", laid_weir_l4_tcpWidths), ("weir/l4.udpWidths", laid_weir_l4_udpWidths)] }
def L4AgainSaid : Prop := l4AgainRow.holds Tryd.pinned (OpenSpec.ofChange l4AgainSpec)

/-- ITS FALSE NEIGHBOUR: 'it returns false'. Refute it at one input. -/
def l4AgainWrong : ChangeSpec := { name := "l4Again", fn := fun _ => fun
  | [d1, d2, d3, d4] => { results := [.lit (.bool false)], args := [d1, d2, d3, d4] }
  | _ => none }
def L4AgainWrongFalsely : Prop := l4AgainRow.holds Tryd.pinned (OpenSpec.ofChange l4AgainWrong)

/- THE SECOND FORM. 'bulk': how many values and letters a reading holds, each counted each time it is reached (what is shared counts as often as it is met; a slice's spare places count too). A statement '..UptoSaid' is the law's where the arguments, and the package variables that the reading takes, are together of bulk at most 1048576: NARROWER than '..Said'. Prove '..Said' where nothing that the law and all that it calls make is longer than what came in: it says more and counts as full. Else prove '..UptoSaid'. A law counts once. -/
mutual
def uptoBulk {H : Type} : DataW H → Nat
  | .lit (.string bytes) => bytes.length + 1
  | .lit _ => 1
  | .nil => 1
  | .ptr d => uptoBulk d + 1
  | .slice elems spare => uptoBulkAll elems + uptoBulkAll spare + 1
  | .agg parts => uptoBulkAll parts + 1
  | .iface _ d => uptoBulk d + 1
  | .map entries => uptoBulkEntries entries + 1
  | .held _ => 1
def uptoBulkAll {H : Type} : List (DataW H) → Nat
  | [] => 0
  | d :: r => uptoBulk d + uptoBulkAll r
def uptoBulkEntries {H : Type} : List (Lit × DataW H) → Nat
  | [] => 0
  | x :: r => uptoBulkEntry x + uptoBulkEntries r
def uptoBulkEntry {H : Type} : Lit × DataW H → Nat
  | (.string bytes, d) => bytes.length + uptoBulk d + 1
  | (_, d) => uptoBulk d + 1
 end
def uptoSmall : (H : Type) → List (DataW H) → Bool := fun _ ds => decide (uptoBulkAll ds ≤ 1048576)
def OpenSpec.upto (s : _root_.Go.ChangeSpec) : _root_.Go.OpenSpec := { _root_.Go.OpenSpec.ofChange s with cond := some uptoSmall }

/-- 'weirlaw9.L4OneForm', WHERE WHAT IT READS IS OF BULK AT MOST 1048576: true; the input reads as it did. -/
def l4OneFormUptoRow : OpenClaim := { program := "ytmeieggnfmhnmaadoor", sum := "512f3b470e725e2d3cdb552460f9bf119ab41138d872383afbdafdf8f32b6c18", func := "weir/weirlaw9.L4OneForm", spec := "l4OneForm", unfollowed := true, recurses := true, named := ["weir/l4.udpWidths", "weir/l4.tcpWidths", "weir/l4.lengths"], apart := false, laid := [("weir/l4.lengths", laid_weir_l4_lengths), ("weir/l4.tcpWidths", laid_weir_l4_tcpWidths), ("weir/l4.udpWidths", laid_weir_l4_udpWidths)], narrowed := true }
def L4OneFormUptoSaid : Prop := l4OneFormUptoRow.holds Tryd.pinned (OpenSpec.upto l4OneFormSpec)

/-- 'weirlaw9.L4Ends', WHERE WHAT IT READS IS OF BULK AT MOST 1048576: true; the input reads as it did. -/
def l4EndsUptoRow : OpenClaim := { program := "ytmeieggnfmhnmaadoor", sum := "512f3b470e725e2d3cdb552460f9bf119ab41138d872383afbdafdf8f32b6c18", func := "weir/weirlaw9.L4Ends", spec := "l4Ends", unfollowed := true, recurses := true, named := ["weir/l4.udpWidths", "weir/l4.tcpWidths", "weir/l4.lengths"], apart := false, laid := [("weir/l4.lengths", laid_weir_l4_lengths), ("weir/l4.tcpWidths", laid_weir_l4_tcpWidths), ("weir/l4.udpWidths", laid_weir_l4_udpWidths)], narrowed := true }
def L4EndsUptoSaid : Prop := l4EndsUptoRow.holds Tryd.pinned (OpenSpec.upto l4EndsSpec)

/-- 'weirlaw9.L4Clamped', WHERE WHAT IT READS IS OF BULK AT MOST 1048576: true; the input reads as it did. -/
def l4ClampedUptoRow : OpenClaim := { program := "ytmeieggnfmhnmaadoor", sum := "512f3b470e725e2d3cdb552460f9bf119ab41138d872383afbdafdf8f32b6c18", func := "weir/weirlaw9.L4Clamped", spec := "l4Clamped", unfollowed := true, recurses := true, named := ["weir/l4.udpWidths", "weir/l4.tcpWidths", "weir/l4.lengths"], apart := false, laid := [("weir/l4.lengths", laid_weir_l4_lengths), ("weir/l4.tcpWidths", laid_weir_l4_tcpWidths), ("weir/l4.udpWidths", laid_weir_l4_udpWidths)], narrowed := true }
def L4ClampedUptoSaid : Prop := l4ClampedUptoRow.holds Tryd.pinned (OpenSpec.upto l4ClampedSpec)

/-- 'weirlaw9.L4OneBit', WHERE WHAT IT READS IS OF BULK AT MOST 1048576: true; the input reads as it did. -/
def l4OneBitUptoRow : OpenClaim := { program := "ytmeieggnfmhnmaadoor", sum := "512f3b470e725e2d3cdb552460f9bf119ab41138d872383afbdafdf8f32b6c18", func := "weir/weirlaw9.L4OneBit", spec := "l4OneBit", unfollowed := true, recurses := true, named := ["weir/l4.udpWidths", "weir/l4.tcpWidths", "weir/l4.lengths"], apart := false, laid := [("weir/l4.lengths", laid_weir_l4_lengths), ("weir/l4.tcpWidths", laid_weir_l4_tcpWidths), ("weir/l4.udpWidths", laid_weir_l4_udpWidths)], narrowed := true }
def L4OneBitUptoSaid : Prop := l4OneBitUptoRow.holds Tryd.pinned (OpenSpec.upto l4OneBitSpec)

/-- 'weirlaw9.L4Window', WHERE WHAT IT READS IS OF BULK AT MOST 1048576: true; the input reads as it did. -/
def l4WindowUptoRow : OpenClaim := { program := "ytmeieggnfmhnmaadoor", sum := "512f3b470e725e2d3cdb552460f9bf119ab41138d872383afbdafdf8f32b6c18", func := "weir/weirlaw9.L4Window", spec := "l4Window", unfollowed := true, recurses := true, named := ["weir/l4.udpWidths", "weir/l4.tcpWidths", "weir/l4.lengths"], apart := false, laid := [("weir/l4.lengths", laid_weir_l4_lengths), ("weir/l4.tcpWidths", laid_weir_l4_tcpWidths), ("weir/l4.udpWidths", laid_weir_l4_udpWidths)], narrowed := true }
def L4WindowUptoSaid : Prop := l4WindowUptoRow.holds Tryd.pinned (OpenSpec.upto l4WindowSpec)

/-- 'weirlaw9.L4Own', WHERE WHAT IT READS IS OF BULK AT MOST 1048576: true; the input reads as it did. -/
def l4OwnUptoRow : OpenClaim := { program := "ytmeieggnfmhnmaadoor", sum := "512f3b470e725e2d3cdb552460f9bf119ab41138d872383afbdafdf8f32b6c18", func := "weir/weirlaw9.L4Own", spec := "l4Own", unfollowed := true, recurses := true, named := ["weir/l4.udpWidths", "weir/l4.tcpWidths", "weir/l4.lengths"], apart := false, laid := [("weir/l4.lengths", laid_weir_l4_lengths), ("weir/l4.tcpWidths", laid_weir_l4_tcpWidths), ("weir/l4.udpWidths", laid_weir_l4_udpWidths)], narrowed := true }
def L4OwnUptoSaid : Prop := l4OwnUptoRow.holds Tryd.pinned (OpenSpec.upto l4OwnSpec)

/-- 'weirlaw9.L4Again', WHERE WHAT IT READS IS OF BULK AT MOST 1048576: true; the input reads as it did. -/
def l4AgainUptoRow : OpenClaim := { program := "ytmeieggnfmhnmaadoor", sum := "512f3b470e725e2d3cdb552460f9bf119ab41138d872383afbdafdf8f32b6c18", func := "weir/weirlaw9.L4Again", spec := "l4Again", unfollowed := true, recurses := true, named := ["weir/l4.udpWidths", "weir/l4.tcpWidths", "weir/l4.lengths"], apart := false, laid := [("weir/l4.lengths", laid_weir_l4_lengths), ("weir/l4.tcpWidths", laid_weir_l4_tcpWidths), ("weir/l4.udpWidths", laid_weir_l4_udpWidths)], narrowed := true }
def L4AgainUptoSaid : Prop := l4AgainUptoRow.holds Tryd.pinned (OpenSpec.upto l4AgainSpec)

end Rows
end Go.Proofs.YtmeieggnfmhnmaaDoor
