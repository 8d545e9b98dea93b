/-
  No cell of these rows narrows 'for every input' (looked for: loops, veiled, ifaces, maps, wideKeys, modest, calm, conditions, laid).
  DERIVED. THE GIVEN ROWS OF THIS SEAT. 6 by the template 'for every input the law returns true; each argument reads behind the call as it read before'; 0 by the template 'total and deterministic' (their statements: YtebpaolniemfgabTotals.lean).
  GIVEN WITH THE SEED: the statements are not yours to turn. If you find one false, say at which input.
  Laid BY PROGRAM, IN A SANDBOX (cutbox-rows.mjs): the forced cells as the released guide's own fill.sh prints them over the translation 71856c303db614d2… (all of the seat's roots in one cut). By AI agents, Wed Nov 11 2026. No macro, syntax, notation, axiom, sorry.
-/
import Derived.Test.YtebpaolniemfgabChecked
import GoSem.Claim
import GoSem.ClaimJoined
import GoSem.ClaimMapViews
import Derived.JoinedTies
import Derived.KernelRfl
namespace Go.Proofs.Ytebpaolniemfgab
/- THE CELL 'sum', in the pinned program and in every row, IS THE sha256 OF THE DUMP (.gsa) THAT YtebpaolniemfgabProg.lean LOADS. Nothing in Lean hashes anything: it is a label: what it is worth is what the hold of that sum in a sandbox is worth. -/
noncomputable def Try.pinned : Pinned := { name := "ytebpaolniemfgab", sum := "71856c303db614d2b3630ec389c65ca47ea04faee623c31783de6efa5f461cfd", checked := Try.checked }
namespace Rows
def none {H : Type} : Left H := { results := [], args := [] }

/-- 'weirlaw1.ViewMany': WHATEVER THE INPUT: true; the input reads as it did. -/
def viewManySpec : ChangeSpec := { name := "viewMany", fn := fun _ => fun
  | [d1, d2] => { results := [.lit (.bool true)], args := [d1, d2] }
  | _ => none }
def viewManyRow : OpenClaim := { program := "ytebpaolniemfgab", sum := "71856c303db614d2b3630ec389c65ca47ea04faee623c31783de6efa5f461cfd", func := "weir/weirlaw1.ViewMany", spec := "viewMany", unfollowed := true, recurses := true, apart := false }
def ViewManySaid : Prop := viewManyRow.holds Try.pinned (OpenSpec.ofChange viewManySpec)

/-- ITS FALSE NEIGHBOUR: 'it returns false'. Refute it at one input. -/
def viewManyWrong : ChangeSpec := { name := "viewMany", fn := fun _ => fun
  | [d1, d2] => { results := [.lit (.bool false)], args := [d1, d2] }
  | _ => none }
def ViewManyWrongFalsely : Prop := viewManyRow.holds Try.pinned (OpenSpec.ofChange viewManyWrong)

/-- 'weirlaw1.ViewCursors': WHATEVER THE INPUT: true; the input reads as it did. -/
def viewCursorsSpec : ChangeSpec := { name := "viewCursors", fn := fun _ => fun
  | [d1, d2, d3] => { results := [.lit (.bool true)], args := [d1, d2, d3] }
  | _ => none }
def viewCursorsRow : OpenClaim := { program := "ytebpaolniemfgab", sum := "71856c303db614d2b3630ec389c65ca47ea04faee623c31783de6efa5f461cfd", func := "weir/weirlaw1.ViewCursors", spec := "viewCursors", unfollowed := true, recurses := true, apart := false }
def ViewCursorsSaid : Prop := viewCursorsRow.holds Try.pinned (OpenSpec.ofChange viewCursorsSpec)

/-- ITS FALSE NEIGHBOUR: 'it returns false'. Refute it at one input. -/
def viewCursorsWrong : ChangeSpec := { name := "viewCursors", fn := fun _ => fun
  | [d1, d2, d3] => { results := [.lit (.bool false)], args := [d1, d2, d3] }
  | _ => none }
def ViewCursorsWrongFalsely : Prop := viewCursorsRow.holds Try.pinned (OpenSpec.ofChange viewCursorsWrong)

/-- 'weirlaw1.ViewAgain': WHATEVER THE INPUT: true; the input reads as it did. -/
def viewAgainSpec : ChangeSpec := { name := "viewAgain", fn := fun _ => fun
  | [d1, d2, d3] => { results := [.lit (.bool true)], args := [d1, d2, d3] }
  | _ => none }
def viewAgainRow : OpenClaim := { program := "ytebpaolniemfgab", sum := "71856c303db614d2b3630ec389c65ca47ea04faee623c31783de6efa5f461cfd", func := "weir/weirlaw1.ViewAgain", spec := "viewAgain", unfollowed := true, recurses := true, apart := false }
def ViewAgainSaid : Prop := viewAgainRow.holds Try.pinned (OpenSpec.ofChange viewAgainSpec)

/-- ITS FALSE NEIGHBOUR: 'it returns false'. Refute it at one input. -/
def viewAgainWrong : ChangeSpec := { name := "viewAgain", fn := fun _ => fun
  | [d1, d2, d3] => { results := [.lit (.bool false)], args := [d1, d2, d3] }
  | _ => none }
def ViewAgainWrongFalsely : Prop := viewAgainRow.holds Try.pinned (OpenSpec.ofChange viewAgainWrong)

/-- 'weirlaw1.ViewLooks': WHATEVER THE INPUT: true; the input reads as it did. -/
def viewLooksSpec : ChangeSpec := { name := "viewLooks", fn := fun _ => fun
  | [d] => { results := [.lit (.bool true)], args := [d] }
  | _ => none }
def viewLooksRow : OpenClaim := { program := "ytebpaolniemfgab", sum := "71856c303db614d2b3630ec389c65ca47ea04faee623c31783de6efa5f461cfd", func := "weir/weirlaw1.ViewLooks", spec := "viewLooks", unfollowed := true, recurses := true, apart := false }
def ViewLooksSaid : Prop := viewLooksRow.holds Try.pinned (OpenSpec.ofChange viewLooksSpec)

/-- ITS FALSE NEIGHBOUR: 'it returns false'. Refute it at one input. -/
def viewLooksWrong : ChangeSpec := { name := "viewLooks", fn := fun _ => fun
  | [d] => { results := [.lit (.bool false)], args := [d] }
  | _ => none }
def ViewLooksWrongFalsely : Prop := viewLooksRow.holds Try.pinned (OpenSpec.ofChange viewLooksWrong)

/-- 'weirlaw1.ViewFields': WHATEVER THE INPUT: true; the input reads as it did. -/
def viewFieldsSpec : ChangeSpec := { name := "viewFields", fn := fun _ => fun
  | [d] => { results := [.lit (.bool true)], args := [d] }
  | _ => none }
def viewFieldsRow : OpenClaim := { program := "ytebpaolniemfgab", sum := "71856c303db614d2b3630ec389c65ca47ea04faee623c31783de6efa5f461cfd", func := "weir/weirlaw1.ViewFields", spec := "viewFields", unfollowed := true, recurses := true, apart := false }
def ViewFieldsSaid : Prop := viewFieldsRow.holds Try.pinned (OpenSpec.ofChange viewFieldsSpec)

/-- ITS FALSE NEIGHBOUR: 'it returns false'. Refute it at one input. -/
def viewFieldsWrong : ChangeSpec := { name := "viewFields", fn := fun _ => fun
  | [d] => { results := [.lit (.bool false)], args := [d] }
  | _ => none }
def ViewFieldsWrongFalsely : Prop := viewFieldsRow.holds Try.pinned (OpenSpec.ofChange viewFieldsWrong)

/-- 'weirlaw1.ViewPlays': WHATEVER THE INPUT: true; the input reads as it did. -/
def viewPlaysSpec : ChangeSpec := { name := "viewPlays", fn := fun _ => fun
  | [d] => { results := [.lit (.bool true)], args := [d] }
  | _ => none }
def viewPlaysRow : OpenClaim := { program := "ytebpaolniemfgab", sum := "71856c303db614d2b3630ec389c65ca47ea04faee623c31783de6efa5f461cfd", func := "weir/weirlaw1.ViewPlays", spec := "viewPlays", unfollowed := true, recurses := true, apart := false }
def ViewPlaysSaid : Prop := viewPlaysRow.holds Try.pinned (OpenSpec.ofChange viewPlaysSpec)

/-- ITS FALSE NEIGHBOUR: 'it returns false'. Refute it at one input. -/
def viewPlaysWrong : ChangeSpec := { name := "viewPlays", fn := fun _ => fun
  | [d] => { results := [.lit (.bool false)], args := [d] }
  | _ => none }
def ViewPlaysWrongFalsely : Prop := viewPlaysRow.holds Try.pinned (OpenSpec.ofChange viewPlaysWrong)

/- THE SECOND FORM. 'bulk': how many values and letters a reading holds, each counted each time it is reached (what is shared counts as often as it is met; a slice's spare places count too). A statement '..UptoSaid' is the law's where the arguments, and the package variables that the reading takes, are together of bulk at most 1048576: NARROWER than '..Said'. Prove '..Said' where nothing that the law and all that it calls make is longer than what came in: it says more and counts as full. Else prove '..UptoSaid'. A law counts once. -/
mutual
def uptoBulk {H : Type} : DataW H → Nat
  | .lit (.string bytes) => bytes.length + 1
  | .lit _ => 1
  | .nil => 1
  | .ptr d => uptoBulk d + 1
  | .slice elems spare => uptoBulkAll elems + uptoBulkAll spare + 1
  | .agg parts => uptoBulkAll parts + 1
  | .iface _ d => uptoBulk d + 1
  | .map entries => uptoBulkEntries entries + 1
  | .held _ => 1
def uptoBulkAll {H : Type} : List (DataW H) → Nat
  | [] => 0
  | d :: r => uptoBulk d + uptoBulkAll r
def uptoBulkEntries {H : Type} : List (Lit × DataW H) → Nat
  | [] => 0
  | x :: r => uptoBulkEntry x + uptoBulkEntries r
def uptoBulkEntry {H : Type} : Lit × DataW H → Nat
  | (.string bytes, d) => bytes.length + uptoBulk d + 1
  | (_, d) => uptoBulk d + 1
 end
def uptoSmall : (H : Type) → List (DataW H) → Bool := fun _ ds => decide (uptoBulkAll ds ≤ 1048576)
def OpenSpec.upto (s : _root_.Go.ChangeSpec) : _root_.Go.OpenSpec := { _root_.Go.OpenSpec.ofChange s with cond := some uptoSmall }

/-- 'weirlaw1.ViewMany', WHERE WHAT IT READS IS OF BULK AT MOST 1048576: true; the input reads as it did. -/
def viewManyUptoRow : OpenClaim := { program := "ytebpaolniemfgab", sum := "71856c303db614d2b3630ec389c65ca47ea04faee623c31783de6efa5f461cfd", func := "weir/weirlaw1.ViewMany", spec := "viewMany", unfollowed := true, recurses := true, apart := false, narrowed := true }
def ViewManyUptoSaid : Prop := viewManyUptoRow.holds Try.pinned (OpenSpec.upto viewManySpec)

/-- 'weirlaw1.ViewCursors', WHERE WHAT IT READS IS OF BULK AT MOST 1048576: true; the input reads as it did. -/
def viewCursorsUptoRow : OpenClaim := { program := "ytebpaolniemfgab", sum := "71856c303db614d2b3630ec389c65ca47ea04faee623c31783de6efa5f461cfd", func := "weir/weirlaw1.ViewCursors", spec := "viewCursors", unfollowed := true, recurses := true, apart := false, narrowed := true }
def ViewCursorsUptoSaid : Prop := viewCursorsUptoRow.holds Try.pinned (OpenSpec.upto viewCursorsSpec)

/-- 'weirlaw1.ViewAgain', WHERE WHAT IT READS IS OF BULK AT MOST 1048576: true; the input reads as it did. -/
def viewAgainUptoRow : OpenClaim := { program := "ytebpaolniemfgab", sum := "71856c303db614d2b3630ec389c65ca47ea04faee623c31783de6efa5f461cfd", func := "weir/weirlaw1.ViewAgain", spec := "viewAgain", unfollowed := true, recurses := true, apart := false, narrowed := true }
def ViewAgainUptoSaid : Prop := viewAgainUptoRow.holds Try.pinned (OpenSpec.upto viewAgainSpec)

/-- 'weirlaw1.ViewLooks', WHERE WHAT IT READS IS OF BULK AT MOST 1048576: true; the input reads as it did. -/
def viewLooksUptoRow : OpenClaim := { program := "ytebpaolniemfgab", sum := "71856c303db614d2b3630ec389c65ca47ea04faee623c31783de6efa5f461cfd", func := "weir/weirlaw1.ViewLooks", spec := "viewLooks", unfollowed := true, recurses := true, apart := false, narrowed := true }
def ViewLooksUptoSaid : Prop := viewLooksUptoRow.holds Try.pinned (OpenSpec.upto viewLooksSpec)

/-- 'weirlaw1.ViewFields', WHERE WHAT IT READS IS OF BULK AT MOST 1048576: true; the input reads as it did. -/
def viewFieldsUptoRow : OpenClaim := { program := "ytebpaolniemfgab", sum := "71856c303db614d2b3630ec389c65ca47ea04faee623c31783de6efa5f461cfd", func := "weir/weirlaw1.ViewFields", spec := "viewFields", unfollowed := true, recurses := true, apart := false, narrowed := true }
def ViewFieldsUptoSaid : Prop := viewFieldsUptoRow.holds Try.pinned (OpenSpec.upto viewFieldsSpec)

/-- 'weirlaw1.ViewPlays', WHERE WHAT IT READS IS OF BULK AT MOST 1048576: true; the input reads as it did. -/
def viewPlaysUptoRow : OpenClaim := { program := "ytebpaolniemfgab", sum := "71856c303db614d2b3630ec389c65ca47ea04faee623c31783de6efa5f461cfd", func := "weir/weirlaw1.ViewPlays", spec := "viewPlays", unfollowed := true, recurses := true, apart := false, narrowed := true }
def ViewPlaysUptoSaid : Prop := viewPlaysUptoRow.holds Try.pinned (OpenSpec.upto viewPlaysSpec)

end Rows
end Go.Proofs.Ytebpaolniemfgab
