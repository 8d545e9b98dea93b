/-
  No cell of these rows narrows 'for every input' (looked for: loops, veiled, ifaces, maps, wideKeys, modest, calm, conditions, laid).
  DERIVED. THE GIVEN ROWS OF THIS SEAT. 6 by the template 'for every input the law returns true; each argument reads behind the call as it read before'; 0 by the template 'total and deterministic' (their statements: YtebpaolniemfgaaTotals.lean).
  GIVEN WITH THE SEED: the statements are not yours to turn. If you find one false, say at which input.
  Laid BY PROGRAM, IN A SANDBOX (cutbox-rows.mjs): the forced cells as the released guide's own fill.sh prints them over the translation 1f2ccc44fa7af544… (all of the seat's roots in one cut). By AI agents, Wed Nov 11 2026. No macro, syntax, notation, axiom, sorry.
-/
import Derived.Test.YtebpaolniemfgaaChecked
import GoSem.Claim
import GoSem.ClaimJoined
import GoSem.ClaimMapViews
import Derived.JoinedTies
import Derived.KernelRfl
namespace Go.Proofs.Ytebpaolniemfgaa
/- THE CELL 'sum', in the pinned program and in every row, IS THE sha256 OF THE DUMP (.gsa) THAT YtebpaolniemfgaaProg.lean LOADS. Nothing in Lean hashes anything: it is a label: what it is worth is what the hold of that sum in a sandbox is worth. -/
noncomputable def Try.pinned : Pinned := { name := "ytebpaolniemfgaa", sum := "1f2ccc44fa7af544003becc0b8f65b07a6c924b792cb28253c96341fe1d542af", checked := Try.checked }
namespace Rows
def none {H : Type} : Left H := { results := [], args := [] }

/-- 'weirlaw1.ViewOneWay': WHATEVER THE INPUT: true; the input reads as it did. -/
def viewOneWaySpec : ChangeSpec := { name := "viewOneWay", fn := fun _ => fun
  | [d1, d2, d3] => { results := [.lit (.bool true)], args := [d1, d2, d3] }
  | _ => none }
def viewOneWayRow : OpenClaim := { program := "ytebpaolniemfgaa", sum := "1f2ccc44fa7af544003becc0b8f65b07a6c924b792cb28253c96341fe1d542af", func := "weir/weirlaw1.ViewOneWay", spec := "viewOneWay", unfollowed := true, recurses := true, apart := false }
def ViewOneWaySaid : Prop := viewOneWayRow.holds Try.pinned (OpenSpec.ofChange viewOneWaySpec)

/-- ITS FALSE NEIGHBOUR: 'it returns false'. Refute it at one input. -/
def viewOneWayWrong : ChangeSpec := { name := "viewOneWay", fn := fun _ => fun
  | [d1, d2, d3] => { results := [.lit (.bool false)], args := [d1, d2, d3] }
  | _ => none }
def ViewOneWayWrongFalsely : Prop := viewOneWayRow.holds Try.pinned (OpenSpec.ofChange viewOneWayWrong)

/-- 'weirlaw1.ViewBack': WHATEVER THE INPUT: true; the input reads as it did. -/
def viewBackSpec : ChangeSpec := { name := "viewBack", fn := fun _ => fun
  | [d1, d2, d3, d4] => { results := [.lit (.bool true)], args := [d1, d2, d3, d4] }
  | _ => none }
def viewBackRow : OpenClaim := { program := "ytebpaolniemfgaa", sum := "1f2ccc44fa7af544003becc0b8f65b07a6c924b792cb28253c96341fe1d542af", func := "weir/weirlaw1.ViewBack", spec := "viewBack", unfollowed := true, recurses := true, apart := false }
def ViewBackSaid : Prop := viewBackRow.holds Try.pinned (OpenSpec.ofChange viewBackSpec)

/-- ITS FALSE NEIGHBOUR: 'it returns false'. Refute it at one input. -/
def viewBackWrong : ChangeSpec := { name := "viewBack", fn := fun _ => fun
  | [d1, d2, d3, d4] => { results := [.lit (.bool false)], args := [d1, d2, d3, d4] }
  | _ => none }
def ViewBackWrongFalsely : Prop := viewBackRow.holds Try.pinned (OpenSpec.ofChange viewBackWrong)

/-- 'weirlaw1.ViewBeside': WHATEVER THE INPUT: true; the input reads as it did. -/
def viewBesideSpec : ChangeSpec := { name := "viewBeside", fn := fun _ => fun
  | [d1, d2, d3, d4, d5] => { results := [.lit (.bool true)], args := [d1, d2, d3, d4, d5] }
  | _ => none }
def viewBesideRow : OpenClaim := { program := "ytebpaolniemfgaa", sum := "1f2ccc44fa7af544003becc0b8f65b07a6c924b792cb28253c96341fe1d542af", func := "weir/weirlaw1.ViewBeside", spec := "viewBeside", unfollowed := true, recurses := true, apart := false }
def ViewBesideSaid : Prop := viewBesideRow.holds Try.pinned (OpenSpec.ofChange viewBesideSpec)

/-- ITS FALSE NEIGHBOUR: 'it returns false'. Refute it at one input. -/
def viewBesideWrong : ChangeSpec := { name := "viewBeside", fn := fun _ => fun
  | [d1, d2, d3, d4, d5] => { results := [.lit (.bool false)], args := [d1, d2, d3, d4, d5] }
  | _ => none }
def ViewBesideWrongFalsely : Prop := viewBesideRow.holds Try.pinned (OpenSpec.ofChange viewBesideWrong)

/-- 'weirlaw1.ViewShares': WHATEVER THE INPUT: true; the input reads as it did. -/
def viewSharesSpec : ChangeSpec := { name := "viewShares", fn := fun _ => fun
  | [d1, d2, d3, d4, d5] => { results := [.lit (.bool true)], args := [d1, d2, d3, d4, d5] }
  | _ => none }
def viewSharesRow : OpenClaim := { program := "ytebpaolniemfgaa", sum := "1f2ccc44fa7af544003becc0b8f65b07a6c924b792cb28253c96341fe1d542af", func := "weir/weirlaw1.ViewShares", spec := "viewShares", unfollowed := true, recurses := true, apart := false }
def ViewSharesSaid : Prop := viewSharesRow.holds Try.pinned (OpenSpec.ofChange viewSharesSpec)

/-- ITS FALSE NEIGHBOUR: 'it returns false'. Refute it at one input. -/
def viewSharesWrong : ChangeSpec := { name := "viewShares", fn := fun _ => fun
  | [d1, d2, d3, d4, d5] => { results := [.lit (.bool false)], args := [d1, d2, d3, d4, d5] }
  | _ => none }
def ViewSharesWrongFalsely : Prop := viewSharesRow.holds Try.pinned (OpenSpec.ofChange viewSharesWrong)

/-- 'weirlaw1.ViewOwn': WHATEVER THE INPUT: true; the input reads as it did. -/
def viewOwnSpec : ChangeSpec := { name := "viewOwn", fn := fun _ => fun
  | [d1, d2, d3] => { results := [.lit (.bool true)], args := [d1, d2, d3] }
  | _ => none }
def viewOwnRow : OpenClaim := { program := "ytebpaolniemfgaa", sum := "1f2ccc44fa7af544003becc0b8f65b07a6c924b792cb28253c96341fe1d542af", func := "weir/weirlaw1.ViewOwn", spec := "viewOwn", unfollowed := true, recurses := true, apart := false }
def ViewOwnSaid : Prop := viewOwnRow.holds Try.pinned (OpenSpec.ofChange viewOwnSpec)

/-- ITS FALSE NEIGHBOUR: 'it returns false'. Refute it at one input. -/
def viewOwnWrong : ChangeSpec := { name := "viewOwn", fn := fun _ => fun
  | [d1, d2, d3] => { results := [.lit (.bool false)], args := [d1, d2, d3] }
  | _ => none }
def ViewOwnWrongFalsely : Prop := viewOwnRow.holds Try.pinned (OpenSpec.ofChange viewOwnWrong)

/-- 'weirlaw1.ViewBuilders': WHATEVER THE INPUT: true; the input reads as it did. -/
def viewBuildersSpec : ChangeSpec := { name := "viewBuilders", fn := fun _ => fun
  | [d1, d2, d3] => { results := [.lit (.bool true)], args := [d1, d2, d3] }
  | _ => none }
def viewBuildersRow : OpenClaim := { program := "ytebpaolniemfgaa", sum := "1f2ccc44fa7af544003becc0b8f65b07a6c924b792cb28253c96341fe1d542af", func := "weir/weirlaw1.ViewBuilders", spec := "viewBuilders", unfollowed := true, recurses := true, apart := false }
def ViewBuildersSaid : Prop := viewBuildersRow.holds Try.pinned (OpenSpec.ofChange viewBuildersSpec)

/-- ITS FALSE NEIGHBOUR: 'it returns false'. Refute it at one input. -/
def viewBuildersWrong : ChangeSpec := { name := "viewBuilders", fn := fun _ => fun
  | [d1, d2, d3] => { results := [.lit (.bool false)], args := [d1, d2, d3] }
  | _ => none }
def ViewBuildersWrongFalsely : Prop := viewBuildersRow.holds Try.pinned (OpenSpec.ofChange viewBuildersWrong)

/- THE SECOND FORM. 'bulk': how many values and letters a reading holds, each counted each time it is reached (what is shared counts as often as it is met; a slice's spare places count too). A statement '..UptoSaid' is the law's where the arguments, and the package variables that the reading takes, are together of bulk at most 1048576: NARROWER than '..Said'. Prove '..Said' where nothing that the law and all that it calls make is longer than what came in: it says more and counts as full. Else prove '..UptoSaid'. A law counts once. -/
mutual
def uptoBulk {H : Type} : DataW H → Nat
  | .lit (.string bytes) => bytes.length + 1
  | .lit _ => 1
  | .nil => 1
  | .ptr d => uptoBulk d + 1
  | .slice elems spare => uptoBulkAll elems + uptoBulkAll spare + 1
  | .agg parts => uptoBulkAll parts + 1
  | .iface _ d => uptoBulk d + 1
  | .map entries => uptoBulkEntries entries + 1
  | .held _ => 1
def uptoBulkAll {H : Type} : List (DataW H) → Nat
  | [] => 0
  | d :: r => uptoBulk d + uptoBulkAll r
def uptoBulkEntries {H : Type} : List (Lit × DataW H) → Nat
  | [] => 0
  | x :: r => uptoBulkEntry x + uptoBulkEntries r
def uptoBulkEntry {H : Type} : Lit × DataW H → Nat
  | (.string bytes, d) => bytes.length + uptoBulk d + 1
  | (_, d) => uptoBulk d + 1
 end
def uptoSmall : (H : Type) → List (DataW H) → Bool := fun _ ds => decide (uptoBulkAll ds ≤ 1048576)
def OpenSpec.upto (s : _root_.Go.ChangeSpec) : _root_.Go.OpenSpec := { _root_.Go.OpenSpec.ofChange s with cond := some uptoSmall }

/-- 'weirlaw1.ViewOneWay', WHERE WHAT IT READS IS OF BULK AT MOST 1048576: true; the input reads as it did. -/
def viewOneWayUptoRow : OpenClaim := { program := "ytebpaolniemfgaa", sum := "1f2ccc44fa7af544003becc0b8f65b07a6c924b792cb28253c96341fe1d542af", func := "weir/weirlaw1.ViewOneWay", spec := "viewOneWay", unfollowed := true, recurses := true, apart := false, narrowed := true }
def ViewOneWayUptoSaid : Prop := viewOneWayUptoRow.holds Try.pinned (OpenSpec.upto viewOneWaySpec)

/-- 'weirlaw1.ViewBack', WHERE WHAT IT READS IS OF BULK AT MOST 1048576: true; the input reads as it did. -/
def viewBackUptoRow : OpenClaim := { program := "ytebpaolniemfgaa", sum := "1f2ccc44fa7af544003becc0b8f65b07a6c924b792cb28253c96341fe1d542af", func := "weir/weirlaw1.ViewBack", spec := "viewBack", unfollowed := true, recurses := true, apart := false, narrowed := true }
def ViewBackUptoSaid : Prop := viewBackUptoRow.holds Try.pinned (OpenSpec.upto viewBackSpec)

/-- 'weirlaw1.ViewBeside', WHERE WHAT IT READS IS OF BULK AT MOST 1048576: true; the input reads as it did. -/
def viewBesideUptoRow : OpenClaim := { program := "ytebpaolniemfgaa", sum := "1f2ccc44fa7af544003becc0b8f65b07a6c924b792cb28253c96341fe1d542af", func := "weir/weirlaw1.ViewBeside", spec := "viewBeside", unfollowed := true, recurses := true, apart := false, narrowed := true }
def ViewBesideUptoSaid : Prop := viewBesideUptoRow.holds Try.pinned (OpenSpec.upto viewBesideSpec)

/-- 'weirlaw1.ViewShares', WHERE WHAT IT READS IS OF BULK AT MOST 1048576: true; the input reads as it did. -/
def viewSharesUptoRow : OpenClaim := { program := "ytebpaolniemfgaa", sum := "1f2ccc44fa7af544003becc0b8f65b07a6c924b792cb28253c96341fe1d542af", func := "weir/weirlaw1.ViewShares", spec := "viewShares", unfollowed := true, recurses := true, apart := false, narrowed := true }
def ViewSharesUptoSaid : Prop := viewSharesUptoRow.holds Try.pinned (OpenSpec.upto viewSharesSpec)

/-- 'weirlaw1.ViewOwn', WHERE WHAT IT READS IS OF BULK AT MOST 1048576: true; the input reads as it did. -/
def viewOwnUptoRow : OpenClaim := { program := "ytebpaolniemfgaa", sum := "1f2ccc44fa7af544003becc0b8f65b07a6c924b792cb28253c96341fe1d542af", func := "weir/weirlaw1.ViewOwn", spec := "viewOwn", unfollowed := true, recurses := true, apart := false, narrowed := true }
def ViewOwnUptoSaid : Prop := viewOwnUptoRow.holds Try.pinned (OpenSpec.upto viewOwnSpec)

/-- 'weirlaw1.ViewBuilders', WHERE WHAT IT READS IS OF BULK AT MOST 1048576: true; the input reads as it did. -/
def viewBuildersUptoRow : OpenClaim := { program := "ytebpaolniemfgaa", sum := "1f2ccc44fa7af544003becc0b8f65b07a6c924b792cb28253c96341fe1d542af", func := "weir/weirlaw1.ViewBuilders", spec := "viewBuilders", unfollowed := true, recurses := true, apart := false, narrowed := true }
def ViewBuildersUptoSaid : Prop := viewBuildersUptoRow.holds Try.pinned (OpenSpec.upto viewBuildersSpec)

end Rows
end Go.Proofs.Ytebpaolniemfgaa
