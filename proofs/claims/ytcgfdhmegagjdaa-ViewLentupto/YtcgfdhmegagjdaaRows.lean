/-
  No cell of these rows narrows 'for every input' (looked for: loops, veiled, ifaces, maps, wideKeys, modest, calm, conditions, laid).
  DERIVED. THE GIVEN ROWS OF THIS SEAT. 5 by the template 'for every input the law returns true; each argument reads behind the call as it read before'; 0 by the template 'total and deterministic' (their statements: YtcgfdhmegagjdaaTotals.lean).
  GIVEN WITH THE SEED: the statements are not yours to turn. If you find one false, say at which input.
  Laid BY PROGRAM, IN A SANDBOX (cutbox-rows.mjs): the forced cells as the released guide's own fill.sh prints them over the translation 0a8db9853c03b9c4… (all of the seat's roots in one cut). By AI agents, Wed Nov 11 2026. No macro, syntax, notation, axiom, sorry.
-/
import Derived.Test.YtcgfdhmegagjdaaChecked
import GoSem.Claim
import GoSem.ClaimJoined
import GoSem.ClaimMapViews
import Derived.JoinedTies
import Derived.KernelRfl
namespace Go.Proofs.Ytcgfdhmegagjdaa
/- THE CELL 'sum', in the pinned program and in every row, IS THE sha256 OF THE DUMP (.gsa) THAT YtcgfdhmegagjdaaProg.lean LOADS. Nothing in Lean hashes anything: it is a label: what it is worth is what the hold of that sum in a sandbox is worth. -/
noncomputable def Try.pinned : Pinned := { name := "ytcgfdhmegagjdaa", sum := "0a8db9853c03b9c40b7563a5d9b3e06ded3ed03173f51c8e661d73129e99d36f", checked := Try.checked }
namespace Rows
def none {H : Type} : Left H := { results := [], args := [] }

/-- 'weirlaw1.ViewOwn': WHATEVER THE INPUT: true; the input reads as it did. -/
def viewOwnSpec : ChangeSpec := { name := "viewOwn", fn := fun _ => fun
  | [d1, d2, d3] => { results := [.lit (.bool true)], args := [d1, d2, d3] }
  | _ => none }
def viewOwnRow : OpenClaim := { program := "ytcgfdhmegagjdaa", sum := "0a8db9853c03b9c40b7563a5d9b3e06ded3ed03173f51c8e661d73129e99d36f", func := "weir/weirlaw1.ViewOwn", spec := "viewOwn", unfollowed := true, recurses := true, apart := false }
def ViewOwnSaid : Prop := viewOwnRow.holds Try.pinned (OpenSpec.ofChange viewOwnSpec)

/-- ITS FALSE NEIGHBOUR: 'it returns false'. Refute it at one input. -/
def viewOwnWrong : ChangeSpec := { name := "viewOwn", fn := fun _ => fun
  | [d1, d2, d3] => { results := [.lit (.bool false)], args := [d1, d2, d3] }
  | _ => none }
def ViewOwnWrongFalsely : Prop := viewOwnRow.holds Try.pinned (OpenSpec.ofChange viewOwnWrong)

/-- 'weirlaw1.ViewBuilders': WHATEVER THE INPUT: true; the input reads as it did. -/
def viewBuildersSpec : ChangeSpec := { name := "viewBuilders", fn := fun _ => fun
  | [d1, d2, d3] => { results := [.lit (.bool true)], args := [d1, d2, d3] }
  | _ => none }
def viewBuildersRow : OpenClaim := { program := "ytcgfdhmegagjdaa", sum := "0a8db9853c03b9c40b7563a5d9b3e06ded3ed03173f51c8e661d73129e99d36f", func := "weir/weirlaw1.ViewBuilders", spec := "viewBuilders", unfollowed := true, recurses := true, apart := false }
def ViewBuildersSaid : Prop := viewBuildersRow.holds Try.pinned (OpenSpec.ofChange viewBuildersSpec)

/-- ITS FALSE NEIGHBOUR: 'it returns false'. Refute it at one input. -/
def viewBuildersWrong : ChangeSpec := { name := "viewBuilders", fn := fun _ => fun
  | [d1, d2, d3] => { results := [.lit (.bool false)], args := [d1, d2, d3] }
  | _ => none }
def ViewBuildersWrongFalsely : Prop := viewBuildersRow.holds Try.pinned (OpenSpec.ofChange viewBuildersWrong)

/-- 'weirlaw1.ViewMany': WHATEVER THE INPUT: true; the input reads as it did. -/
def viewManySpec : ChangeSpec := { name := "viewMany", fn := fun _ => fun
  | [d1, d2] => { results := [.lit (.bool true)], args := [d1, d2] }
  | _ => none }
def viewManyRow : OpenClaim := { program := "ytcgfdhmegagjdaa", sum := "0a8db9853c03b9c40b7563a5d9b3e06ded3ed03173f51c8e661d73129e99d36f", func := "weir/weirlaw1.ViewMany", spec := "viewMany", unfollowed := true, recurses := true, apart := false }
def ViewManySaid : Prop := viewManyRow.holds Try.pinned (OpenSpec.ofChange viewManySpec)

/-- ITS FALSE NEIGHBOUR: 'it returns false'. Refute it at one input. -/
def viewManyWrong : ChangeSpec := { name := "viewMany", fn := fun _ => fun
  | [d1, d2] => { results := [.lit (.bool false)], args := [d1, d2] }
  | _ => none }
def ViewManyWrongFalsely : Prop := viewManyRow.holds Try.pinned (OpenSpec.ofChange viewManyWrong)

/-- 'weirlaw1.ViewCursors': WHATEVER THE INPUT: true; the input reads as it did. -/
def viewCursorsSpec : ChangeSpec := { name := "viewCursors", fn := fun _ => fun
  | [d1, d2, d3] => { results := [.lit (.bool true)], args := [d1, d2, d3] }
  | _ => none }
def viewCursorsRow : OpenClaim := { program := "ytcgfdhmegagjdaa", sum := "0a8db9853c03b9c40b7563a5d9b3e06ded3ed03173f51c8e661d73129e99d36f", func := "weir/weirlaw1.ViewCursors", spec := "viewCursors", unfollowed := true, recurses := true, apart := false }
def ViewCursorsSaid : Prop := viewCursorsRow.holds Try.pinned (OpenSpec.ofChange viewCursorsSpec)

/-- ITS FALSE NEIGHBOUR: 'it returns false'. Refute it at one input. -/
def viewCursorsWrong : ChangeSpec := { name := "viewCursors", fn := fun _ => fun
  | [d1, d2, d3] => { results := [.lit (.bool false)], args := [d1, d2, d3] }
  | _ => none }
def ViewCursorsWrongFalsely : Prop := viewCursorsRow.holds Try.pinned (OpenSpec.ofChange viewCursorsWrong)

/-- 'weirlaw1.ViewLent': WHATEVER THE INPUT: true; the input reads as it did. -/
def viewLentSpec : ChangeSpec := { name := "viewLent", fn := fun _ => fun
  | [d1, d2, d3, d4, d5, d6] => { results := [.lit (.bool true)], args := [d1, d2, d3, d4, d5, d6] }
  | _ => none }
def viewLentRow : OpenClaim := { program := "ytcgfdhmegagjdaa", sum := "0a8db9853c03b9c40b7563a5d9b3e06ded3ed03173f51c8e661d73129e99d36f", func := "weir/weirlaw1.ViewLent", spec := "viewLent", unfollowed := true, recurses := true, apart := false }
def ViewLentSaid : Prop := viewLentRow.holds Try.pinned (OpenSpec.ofChange viewLentSpec)

/-- ITS FALSE NEIGHBOUR: 'it returns false'. Refute it at one input. -/
def viewLentWrong : ChangeSpec := { name := "viewLent", fn := fun _ => fun
  | [d1, d2, d3, d4, d5, d6] => { results := [.lit (.bool false)], args := [d1, d2, d3, d4, d5, d6] }
  | _ => none }
def ViewLentWrongFalsely : Prop := viewLentRow.holds Try.pinned (OpenSpec.ofChange viewLentWrong)

/- THE SECOND FORM. 'bulk': how many values and letters a reading holds, each counted each time it is reached (what is shared counts as often as it is met; a slice's spare places count too). A statement '..UptoSaid' is the law's where the arguments, and the package variables that the reading takes, are together of bulk at most 1048576: NARROWER than '..Said'. Prove '..Said' where nothing that the law and all that it calls make is longer than what came in: it says more and counts as full. Else prove '..UptoSaid'. A law counts once. -/
mutual
def uptoBulk {H : Type} : DataW H → Nat
  | .lit (.string bytes) => bytes.length + 1
  | .lit _ => 1
  | .nil => 1
  | .ptr d => uptoBulk d + 1
  | .slice elems spare => uptoBulkAll elems + uptoBulkAll spare + 1
  | .agg parts => uptoBulkAll parts + 1
  | .iface _ d => uptoBulk d + 1
  | .map entries => uptoBulkEntries entries + 1
  | .held _ => 1
def uptoBulkAll {H : Type} : List (DataW H) → Nat
  | [] => 0
  | d :: r => uptoBulk d + uptoBulkAll r
def uptoBulkEntries {H : Type} : List (Lit × DataW H) → Nat
  | [] => 0
  | x :: r => uptoBulkEntry x + uptoBulkEntries r
def uptoBulkEntry {H : Type} : Lit × DataW H → Nat
  | (.string bytes, d) => bytes.length + uptoBulk d + 1
  | (_, d) => uptoBulk d + 1
 end
def uptoSmall : (H : Type) → List (DataW H) → Bool := fun _ ds => decide (uptoBulkAll ds ≤ 1048576)
def OpenSpec.upto (s : _root_.Go.ChangeSpec) : _root_.Go.OpenSpec := { _root_.Go.OpenSpec.ofChange s with cond := some uptoSmall }

/-- 'weirlaw1.ViewOwn', WHERE WHAT IT READS IS OF BULK AT MOST 1048576: true; the input reads as it did. -/
def viewOwnUptoRow : OpenClaim := { program := "ytcgfdhmegagjdaa", sum := "0a8db9853c03b9c40b7563a5d9b3e06ded3ed03173f51c8e661d73129e99d36f", func := "weir/weirlaw1.ViewOwn", spec := "viewOwn", unfollowed := true, recurses := true, apart := false, narrowed := true }
def ViewOwnUptoSaid : Prop := viewOwnUptoRow.holds Try.pinned (OpenSpec.upto viewOwnSpec)

/-- 'weirlaw1.ViewBuilders', WHERE WHAT IT READS IS OF BULK AT MOST 1048576: true; the input reads as it did. -/
def viewBuildersUptoRow : OpenClaim := { program := "ytcgfdhmegagjdaa", sum := "0a8db9853c03b9c40b7563a5d9b3e06ded3ed03173f51c8e661d73129e99d36f", func := "weir/weirlaw1.ViewBuilders", spec := "viewBuilders", unfollowed := true, recurses := true, apart := false, narrowed := true }
def ViewBuildersUptoSaid : Prop := viewBuildersUptoRow.holds Try.pinned (OpenSpec.upto viewBuildersSpec)

/-- 'weirlaw1.ViewMany', WHERE WHAT IT READS IS OF BULK AT MOST 1048576: true; the input reads as it did. -/
def viewManyUptoRow : OpenClaim := { program := "ytcgfdhmegagjdaa", sum := "0a8db9853c03b9c40b7563a5d9b3e06ded3ed03173f51c8e661d73129e99d36f", func := "weir/weirlaw1.ViewMany", spec := "viewMany", unfollowed := true, recurses := true, apart := false, narrowed := true }
def ViewManyUptoSaid : Prop := viewManyUptoRow.holds Try.pinned (OpenSpec.upto viewManySpec)

/-- 'weirlaw1.ViewCursors', WHERE WHAT IT READS IS OF BULK AT MOST 1048576: true; the input reads as it did. -/
def viewCursorsUptoRow : OpenClaim := { program := "ytcgfdhmegagjdaa", sum := "0a8db9853c03b9c40b7563a5d9b3e06ded3ed03173f51c8e661d73129e99d36f", func := "weir/weirlaw1.ViewCursors", spec := "viewCursors", unfollowed := true, recurses := true, apart := false, narrowed := true }
def ViewCursorsUptoSaid : Prop := viewCursorsUptoRow.holds Try.pinned (OpenSpec.upto viewCursorsSpec)

/-- 'weirlaw1.ViewLent', WHERE WHAT IT READS IS OF BULK AT MOST 1048576: true; the input reads as it did. -/
def viewLentUptoRow : OpenClaim := { program := "ytcgfdhmegagjdaa", sum := "0a8db9853c03b9c40b7563a5d9b3e06ded3ed03173f51c8e661d73129e99d36f", func := "weir/weirlaw1.ViewLent", spec := "viewLent", unfollowed := true, recurses := true, apart := false, narrowed := true }
def ViewLentUptoSaid : Prop := viewLentUptoRow.holds Try.pinned (OpenSpec.upto viewLentSpec)

end Rows
end Go.Proofs.Ytcgfdhmegagjdaa
