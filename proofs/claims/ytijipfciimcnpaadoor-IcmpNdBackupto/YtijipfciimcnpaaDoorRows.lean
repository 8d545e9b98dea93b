/-
  NARROWER THAN 'FOR EVERY INPUT', by the rows' own cells (each row's printed sentence says how): IcmpNdBack: laid · IcmpQuiet: laid · IcmpNdPuts: laid · IcmpNds: laid · IcmpAgain: laid.
  DERIVED. THE GIVEN ROWS OF THIS SEAT. 5 by the template 'for every input the law returns true; each argument reads behind the call as it read before'; 0 by the template 'total and deterministic' (their statements: YtijipfciimcnpaaDoorTotals.lean).
  GIVEN WITH THE SEED: the statements are not yours to turn. If you find one false, say at which input.
  Laid BY PROGRAM, IN A SANDBOX (cutbox-rows.mjs): the forced cells as the released guide's own fill.sh prints them over the translation ef6e50daacb8194a… (all of the seat's roots in one cut). By AI agents, Wed Nov 11 2026. No macro, syntax, notation, axiom, sorry.
-/
import Derived.Test.YtijipfciimcnpaaDoorChecked
import GoSem.Claim
import GoSem.ClaimJoined
import GoSem.ClaimMapViews
import Derived.JoinedTies
import Derived.KernelRfl
namespace Go.Proofs.YtijipfciimcnpaaDoor
/- THE CELL 'sum', in the pinned program and in every row, IS THE sha256 OF THE DUMP (.gsa) THAT YtijipfciimcnpaaDoorProg.lean LOADS. Nothing in Lean hashes anything: it is a label: what it is worth is what the hold of that sum in a sandbox is worth. -/
noncomputable def Tryd.pinned : Pinned := { name := "ytijipfciimcnpaadoor", sum := "ef6e50daacb8194a11b74a1d2ba13f38eba0c7c122b170aeb8ecf122abc7b37a", checked := Tryd.checked }
namespace Rows
def none {H : Type} : Left H := { results := [], args := [] }

/- WHAT THE LISTED PACKAGE-LEVEL VARIABLES READ AS WHEN THE CALL BEGINS. Each datum BY PROGRAM (the guide's laid-datum.mjs) off the statement by which the dump's own 'gosem.cut.vars' lays the variable. In a bare row this is a premise. The card (YtijipfciimcnpaaDoorCards.lean) ties it to the program's text. -/
def laid_weir_addr_special {H : Type} : DataW H := .agg [.agg [.lit (.int .i64 1), .lit (.int .i64 4), .agg [.lit (.int .u8 0), .lit (.int .u8 0), .lit (.int .u8 0), .lit (.int .u8 0), .lit (.int .u8 0), .lit (.int .u8 0), .lit (.int .u8 0), .lit (.int .u8 0), .lit (.int .u8 0), .lit (.int .u8 0), .lit (.int .u8 0), .lit (.int .u8 0), .lit (.int .u8 0), .lit (.int .u8 0), .lit (.int .u8 0), .lit (.int .u8 0)], .lit (.int .i64 32)], .agg [.lit (.int .i64 1), .lit (.int .i64 6), .agg [.lit (.int .u8 0), .lit (.int .u8 0), .lit (.int .u8 0), .lit (.int .u8 0), .lit (.int .u8 0), .lit (.int .u8 0), .lit (.int .u8 0), .lit (.int .u8 0), .lit (.int .u8 0), .lit (.int .u8 0), .lit (.int .u8 0), .lit (.int .u8 0), .lit (.int .u8 0), .lit (.int .u8 0), .lit (.int .u8 0), .lit (.int .u8 0)], .lit (.int .i64 128)], .agg [.lit (.int .i64 2), .lit (.int .i64 4), .agg [.lit (.int .u8 127), .lit (.int .u8 0), .lit (.int .u8 0), .lit (.int .u8 0), .lit (.int .u8 0), .lit (.int .u8 0), .lit (.int .u8 0), .lit (.int .u8 0), .lit (.int .u8 0), .lit (.int .u8 0), .lit (.int .u8 0), .lit (.int .u8 0), .lit (.int .u8 0), .lit (.int .u8 0), .lit (.int .u8 0), .lit (.int .u8 0)], .lit (.int .i64 8)], .agg [.lit (.int .i64 2), .lit (.int .i64 6), .agg [.lit (.int .u8 0), .lit (.int .u8 0), .lit (.int .u8 0), .lit (.int .u8 0), .lit (.int .u8 0), .lit (.int .u8 0), .lit (.int .u8 0), .lit (.int .u8 0), .lit (.int .u8 0), .lit (.int .u8 0), .lit (.int .u8 0), .lit (.int .u8 0), .lit (.int .u8 0), .lit (.int .u8 0), .lit (.int .u8 0), .lit (.int .u8 1)], .lit (.int .i64 128)], .agg [.lit (.int .i64 3), .lit (.int .i64 4), .agg [.lit (.int .u8 224), .lit (.int .u8 0), .lit (.int .u8 0), .lit (.int .u8 0), .lit (.int .u8 0), .lit (.int .u8 0), .lit (.int .u8 0), .lit (.int .u8 0), .lit (.int .u8 0), .lit (.int .u8 0), .lit (.int .u8 0), .lit (.int .u8 0), .lit (.int .u8 0), .lit (.int .u8 0), .lit (.int .u8 0), .lit (.int .u8 0)], .lit (.int .i64 4)], .agg [.lit (.int .i64 3), .lit (.int .i64 6), .agg [.lit (.int .u8 255), .lit (.int .u8 0), .lit (.int .u8 0), .lit (.int .u8 0), .lit (.int .u8 0), .lit (.int .u8 0), .lit (.int .u8 0), .lit (.int .u8 0), .lit (.int .u8 0), .lit (.int .u8 0), .lit (.int .u8 0), .lit (.int .u8 0), .lit (.int .u8 0), .lit (.int .u8 0), .lit (.int .u8 0), .lit (.int .u8 0)], .lit (.int .i64 8)], .agg [.lit (.int .i64 4), .lit (.int .i64 4), .agg [.lit (.int .u8 169), .lit (.int .u8 254), .lit (.int .u8 0), .lit (.int .u8 0), .lit (.int .u8 0), .lit (.int .u8 0), .lit (.int .u8 0), .lit (.int .u8 0), .lit (.int .u8 0), .lit (.int .u8 0), .lit (.int .u8 0), .lit (.int .u8 0), .lit (.int .u8 0), .lit (.int .u8 0), .lit (.int .u8 0), .lit (.int .u8 0)], .lit (.int .i64 16)], .agg [.lit (.int .i64 4), .lit (.int .i64 6), .agg [.lit (.int .u8 254), .lit (.int .u8 128), .lit (.int .u8 0), .lit (.int .u8 0), .lit (.int .u8 0), .lit (.int .u8 0), .lit (.int .u8 0), .lit (.int .u8 0), .lit (.int .u8 0), .lit (.int .u8 0), .lit (.int .u8 0), .lit (.int .u8 0), .lit (.int .u8 0), .lit (.int .u8 0), .lit (.int .u8 0), .lit (.int .u8 0)], .lit (.int .i64 10)], .agg [.lit (.int .i64 5), .lit (.int .i64 4), .agg [.lit (.int .u8 255), .lit (.int .u8 255), .lit (.int .u8 255), .lit (.int .u8 255), .lit (.int .u8 0), .lit (.int .u8 0), .lit (.int .u8 0), .lit (.int .u8 0), .lit (.int .u8 0), .lit (.int .u8 0), .lit (.int .u8 0), .lit (.int .u8 0), .lit (.int .u8 0), .lit (.int .u8 0), .lit (.int .u8 0), .lit (.int .u8 0)], .lit (.int .i64 32)], .agg [.lit (.int .i64 6), .lit (.int .i64 4), .agg [.lit (.int .u8 0), .lit (.int .u8 0), .lit (.int .u8 0), .lit (.int .u8 0), .lit (.int .u8 0), .lit (.int .u8 0), .lit (.int .u8 0), .lit (.int .u8 0), .lit (.int .u8 0), .lit (.int .u8 0), .lit (.int .u8 0), .lit (.int .u8 0), .lit (.int .u8 0), .lit (.int .u8 0), .lit (.int .u8 0), .lit (.int .u8 0)], .lit (.int .i64 8)], .agg [.lit (.int .i64 6), .lit (.int .i64 4), .agg [.lit (.int .u8 240), .lit (.int .u8 0), .lit (.int .u8 0), .lit (.int .u8 0), .lit (.int .u8 0), .lit (.int .u8 0), .lit (.int .u8 0), .lit (.int .u8 0), .lit (.int .u8 0), .lit (.int .u8 0), .lit (.int .u8 0), .lit (.int .u8 0), .lit (.int .u8 0), .lit (.int .u8 0), .lit (.int .u8 0), .lit (.int .u8 0)], .lit (.int .i64 4)], .agg [.lit (.int .i64 6), .lit (.int .i64 6), .agg [.lit (.int .u8 0), .lit (.int .u8 0), .lit (.int .u8 0), .lit (.int .u8 0), .lit (.int .u8 0), .lit (.int .u8 0), .lit (.int .u8 0), .lit (.int .u8 0), .lit (.int .u8 0), .lit (.int .u8 0), .lit (.int .u8 0), .lit (.int .u8 0), .lit (.int .u8 0), .lit (.int .u8 0), .lit (.int .u8 0), .lit (.int .u8 0)], .lit (.int .i64 8)]]
def laid_weir_icmp_discoveries {H : Type} : DataW H := .agg [.agg [.lit (.int .i64 1), .lit (.int .i64 135), .lit (.int .i64 1)], .agg [.lit (.int .i64 2), .lit (.int .i64 136), .lit (.int .i64 2)]]
def laid_weir_ip4_widths {H : Type} : DataW H := .agg [.lit (.int .i64 4), .lit (.int .i64 4), .lit (.int .i64 8), .lit (.int .i64 16), .lit (.int .i64 16), .lit (.int .i64 1), .lit (.int .i64 1), .lit (.int .i64 1), .lit (.int .i64 13), .lit (.int .i64 8), .lit (.int .i64 8), .lit (.int .i64 16), .lit (.int .i64 32), .lit (.int .i64 32)]
def laid_weir_ip6_widths {H : Type} : DataW H := .agg [.lit (.int .i64 4), .lit (.int .i64 8), .lit (.int .i64 20), .lit (.int .i64 16), .lit (.int .i64 8), .lit (.int .i64 8)]
def laid_weir_ip6_kinds {H : Type} : DataW H := .agg [.agg [.lit (.int .i64 0), .lit (.int .i64 1)], .agg [.lit (.int .i64 43), .lit (.int .i64 2)], .agg [.lit (.int .i64 44), .lit (.int .i64 3)], .agg [.lit (.int .i64 60), .lit (.int .i64 1)]]
def laid_weir_ip6_pieceWidths {H : Type} : DataW H := .agg [.lit (.int .i64 8), .lit (.int .i64 8), .lit (.int .i64 13), .lit (.int .i64 2), .lit (.int .i64 1), .lit (.int .i64 32)]
def laid_weir_icmp_widths {H : Type} : DataW H := .agg [.lit (.int .i64 8), .lit (.int .i64 8), .lit (.int .i64 16), .lit (.int .i64 32)]
def laid_weir_icmp_tellings {H : Type} : DataW H := .agg [.agg [.lit (.int .i64 1), .lit (.int .i64 4), .lit (.int .i64 3), .lit (.int .i64 0), .lit (.int .i64 0), .lit (.int .i64 0)], .agg [.lit (.int .i64 2), .lit (.int .i64 4), .lit (.int .i64 3), .lit (.int .i64 1), .lit (.int .i64 0), .lit (.int .i64 0)], .agg [.lit (.int .i64 3), .lit (.int .i64 4), .lit (.int .i64 3), .lit (.int .i64 13), .lit (.int .i64 0), .lit (.int .i64 0)], .agg [.lit (.int .i64 4), .lit (.int .i64 4), .lit (.int .i64 3), .lit (.int .i64 4), .lit (.int .i64 65535), .lit (.int .i64 0)], .agg [.lit (.int .i64 5), .lit (.int .i64 4), .lit (.int .i64 11), .lit (.int .i64 0), .lit (.int .i64 0), .lit (.int .i64 0)], .agg [.lit (.int .i64 6), .lit (.int .i64 4), .lit (.int .i64 11), .lit (.int .i64 1), .lit (.int .i64 0), .lit (.int .i64 0)], .agg [.lit (.int .i64 7), .lit (.int .i64 4), .lit (.int .i64 12), .lit (.int .i64 0), .lit (.int .i64 255), .lit (.int .i64 24)], .agg [.lit (.int .i64 1), .lit (.int .i64 6), .lit (.int .i64 1), .lit (.int .i64 0), .lit (.int .i64 0), .lit (.int .i64 0)], .agg [.lit (.int .i64 2), .lit (.int .i64 6), .lit (.int .i64 1), .lit (.int .i64 3), .lit (.int .i64 0), .lit (.int .i64 0)], .agg [.lit (.int .i64 3), .lit (.int .i64 6), .lit (.int .i64 1), .lit (.int .i64 1), .lit (.int .i64 0), .lit (.int .i64 0)], .agg [.lit (.int .i64 4), .lit (.int .i64 6), .lit (.int .i64 2), .lit (.int .i64 0), .lit (.int .i64 65535), .lit (.int .i64 0)], .agg [.lit (.int .i64 5), .lit (.int .i64 6), .lit (.int .i64 3), .lit (.int .i64 0), .lit (.int .i64 0), .lit (.int .i64 0)], .agg [.lit (.int .i64 6), .lit (.int .i64 6), .lit (.int .i64 3), .lit (.int .i64 1), .lit (.int .i64 0), .lit (.int .i64 0)], .agg [.lit (.int .i64 7), .lit (.int .i64 6), .lit (.int .i64 4), .lit (.int .i64 0), .lit (.int .i64 65535), .lit (.int .i64 0)]]

/-- 'weirlaw8.IcmpNdBack': WHATEVER THE INPUT: true; the input reads as it did. -/
def icmpNdBackSpec : ChangeSpec := { name := "icmpNdBack", fn := fun _ => fun
  | [d1, d2] => { results := [.lit (.bool true)], args := [d1, d2] }
  | _ => none }
def icmpNdBackRow : OpenClaim := { program := "ytijipfciimcnpaadoor", sum := "ef6e50daacb8194a11b74a1d2ba13f38eba0c7c122b170aeb8ecf122abc7b37a", func := "weir/weirlaw8.IcmpNdBack", spec := "icmpNdBack", unfollowed := true, recurses := true, named := ["weir/icmp.discoveries", "weir/addr.special"], apart := false, laid := [("weir/addr.special", laid_weir_addr_special), ("weir/icmp.discoveries", laid_weir_icmp_discoveries)] }
def IcmpNdBackSaid : Prop := icmpNdBackRow.holds Tryd.pinned (OpenSpec.ofChange icmpNdBackSpec)

/-- ITS FALSE NEIGHBOUR: 'it returns false'. Refute it at one input. -/
def icmpNdBackWrong : ChangeSpec := { name := "icmpNdBack", fn := fun _ => fun
  | [d1, d2] => { results := [.lit (.bool false)], args := [d1, d2] }
  | _ => none }
def IcmpNdBackWrongFalsely : Prop := icmpNdBackRow.holds Tryd.pinned (OpenSpec.ofChange icmpNdBackWrong)

/-- 'weirlaw8.IcmpQuiet': WHATEVER THE INPUT: true; the input reads as it did. -/
def icmpQuietSpec : ChangeSpec := { name := "icmpQuiet", fn := fun _ => fun
  | [d1, d2, d3, d4] => { results := [.lit (.bool true)], args := [d1, d2, d3, d4] }
  | _ => none }
def icmpQuietRow : OpenClaim := { program := "ytijipfciimcnpaadoor", sum := "ef6e50daacb8194a11b74a1d2ba13f38eba0c7c122b170aeb8ecf122abc7b37a", func := "weir/weirlaw8.IcmpQuiet", spec := "icmpQuiet", unfollowed := true, recurses := true, named := ["weir/icmp.tellings", "weir/addr.special", "weir/ip4.widths", "weir/ip6.kinds", "weir/ip6.widths", "weir/ip6.pieceWidths", "weir/icmp.widths"], apart := false, laid := [("weir/addr.special", laid_weir_addr_special), ("weir/ip4.widths", laid_weir_ip4_widths), ("weir/ip6.widths", laid_weir_ip6_widths), ("weir/ip6.kinds", laid_weir_ip6_kinds), ("weir/ip6.pieceWidths", laid_weir_ip6_pieceWidths), ("weir/icmp.widths", laid_weir_icmp_widths), ("weir/icmp.tellings", laid_weir_icmp_tellings)] }
def IcmpQuietSaid : Prop := icmpQuietRow.holds Tryd.pinned (OpenSpec.ofChange icmpQuietSpec)

/-- ITS FALSE NEIGHBOUR: 'it returns false'. Refute it at one input. -/
def icmpQuietWrong : ChangeSpec := { name := "icmpQuiet", fn := fun _ => fun
  | [d1, d2, d3, d4] => { results := [.lit (.bool false)], args := [d1, d2, d3, d4] }
  | _ => none }
def IcmpQuietWrongFalsely : Prop := icmpQuietRow.holds Tryd.pinned (OpenSpec.ofChange icmpQuietWrong)

/-- 'weirlaw8.IcmpNdPuts': WHATEVER THE INPUT: true; the input reads as it did. -/
def icmpNdPutsSpec : ChangeSpec := { name := "icmpNdPuts", fn := fun _ => fun
  | [d] => { results := [.lit (.bool true)], args := [d] }
  | _ => none }
def icmpNdPutsRow : OpenClaim := { program := "ytijipfciimcnpaadoor", sum := "ef6e50daacb8194a11b74a1d2ba13f38eba0c7c122b170aeb8ecf122abc7b37a", func := "weir/weirlaw8.IcmpNdPuts", spec := "icmpNdPuts", unfollowed := true, recurses := true, named := ["weir/icmp.discoveries", "weir/addr.special"], apart := false, laid := [("weir/addr.special", laid_weir_addr_special), ("weir/icmp.discoveries", laid_weir_icmp_discoveries)] }
def IcmpNdPutsSaid : Prop := icmpNdPutsRow.holds Tryd.pinned (OpenSpec.ofChange icmpNdPutsSpec)

/-- ITS FALSE NEIGHBOUR: 'it returns false'. Refute it at one input. -/
def icmpNdPutsWrong : ChangeSpec := { name := "icmpNdPuts", fn := fun _ => fun
  | [d] => { results := [.lit (.bool false)], args := [d] }
  | _ => none }
def IcmpNdPutsWrongFalsely : Prop := icmpNdPutsRow.holds Tryd.pinned (OpenSpec.ofChange icmpNdPutsWrong)

/-- 'weirlaw8.IcmpNds': WHATEVER THE INPUT: true; the input reads as it did. -/
def icmpNdsSpec : ChangeSpec := { name := "icmpNds", fn := fun _ => fun
  | [d] => { results := [.lit (.bool true)], args := [d] }
  | _ => none }
def icmpNdsRow : OpenClaim := { program := "ytijipfciimcnpaadoor", sum := "ef6e50daacb8194a11b74a1d2ba13f38eba0c7c122b170aeb8ecf122abc7b37a", func := "weir/weirlaw8.IcmpNds", spec := "icmpNds", unfollowed := true, recurses := true, named := ["weir/icmp.discoveries", "weir/addr.special"], apart := false, laid := [("weir/addr.special", laid_weir_addr_special), ("weir/icmp.discoveries", laid_weir_icmp_discoveries)] }
def IcmpNdsSaid : Prop := icmpNdsRow.holds Tryd.pinned (OpenSpec.ofChange icmpNdsSpec)

/-- ITS FALSE NEIGHBOUR: 'it returns false'. Refute it at one input. -/
def icmpNdsWrong : ChangeSpec := { name := "icmpNds", fn := fun _ => fun
  | [d] => { results := [.lit (.bool false)], args := [d] }
  | _ => none }
def IcmpNdsWrongFalsely : Prop := icmpNdsRow.holds Tryd.pinned (OpenSpec.ofChange icmpNdsWrong)

/-- 'weirlaw8.IcmpAgain': WHATEVER THE INPUT: true; the input reads as it did. -/
def icmpAgainSpec : ChangeSpec := { name := "icmpAgain", fn := fun _ => fun
  | [d1, d2, d3, d4, d5, d6] => { results := [.lit (.bool true)], args := [d1, d2, d3, d4, d5, d6] }
  | _ => none }
def icmpAgainRow : OpenClaim := { program := "ytijipfciimcnpaadoor", sum := "ef6e50daacb8194a11b74a1d2ba13f38eba0c7c122b170aeb8ecf122abc7b37a", func := "weir/weirlaw8.IcmpAgain", spec := "icmpAgain", unfollowed := true, recurses := true, named := ["weir/icmp.widths", "weir/icmp.discoveries", "weir/addr.special"], apart := false, laid := [("weir/addr.special", laid_weir_addr_special), ("weir/icmp.widths", laid_weir_icmp_widths), ("weir/icmp.discoveries", laid_weir_icmp_discoveries)] }
def IcmpAgainSaid : Prop := icmpAgainRow.holds Tryd.pinned (OpenSpec.ofChange icmpAgainSpec)

/-- ITS FALSE NEIGHBOUR: 'it returns false'. Refute it at one input. -/
def icmpAgainWrong : ChangeSpec := { name := "icmpAgain", fn := fun _ => fun
  | [d1, d2, d3, d4, d5, d6] => { results := [.lit (.bool false)], args := [d1, d2, d3, d4, d5, d6] }
  | _ => none }
def IcmpAgainWrongFalsely : Prop := icmpAgainRow.holds Tryd.pinned (OpenSpec.ofChange icmpAgainWrong)

/- THE SECOND FORM. 'bulk': how many values and letters a reading holds, each counted each time it is reached (what is shared counts as often as it is met; a slice's spare places count too). A statement '..UptoSaid' is the law's where the arguments, and the package variables that the reading takes, are together of bulk at most 1048576: NARROWER than '..Said'. Prove '..Said' where nothing that the law and all that it calls make is longer than what came in: it says more and counts as full. Else prove '..UptoSaid'. A law counts once. -/
mutual
def uptoBulk {H : Type} : DataW H → Nat
  | .lit (.string bytes) => bytes.length + 1
  | .lit _ => 1
  | .nil => 1
  | .ptr d => uptoBulk d + 1
  | .slice elems spare => uptoBulkAll elems + uptoBulkAll spare + 1
  | .agg parts => uptoBulkAll parts + 1
  | .iface _ d => uptoBulk d + 1
  | .map entries => uptoBulkEntries entries + 1
  | .held _ => 1
def uptoBulkAll {H : Type} : List (DataW H) → Nat
  | [] => 0
  | d :: r => uptoBulk d + uptoBulkAll r
def uptoBulkEntries {H : Type} : List (Lit × DataW H) → Nat
  | [] => 0
  | x :: r => uptoBulkEntry x + uptoBulkEntries r
def uptoBulkEntry {H : Type} : Lit × DataW H → Nat
  | (.string bytes, d) => bytes.length + uptoBulk d + 1
  | (_, d) => uptoBulk d + 1
 end
def uptoSmall : (H : Type) → List (DataW H) → Bool := fun _ ds => decide (uptoBulkAll ds ≤ 1048576)
def OpenSpec.upto (s : _root_.Go.ChangeSpec) : _root_.Go.OpenSpec := { _root_.Go.OpenSpec.ofChange s with cond := some uptoSmall }

/-- 'weirlaw8.IcmpNdBack', WHERE WHAT IT READS IS OF BULK AT MOST 1048576: true; the input reads as it did. -/
def icmpNdBackUptoRow : OpenClaim := { program := "ytijipfciimcnpaadoor", sum := "ef6e50daacb8194a11b74a1d2ba13f38eba0c7c122b170aeb8ecf122abc7b37a", func := "weir/weirlaw8.IcmpNdBack", spec := "icmpNdBack", unfollowed := true, recurses := true, named := ["weir/icmp.discoveries", "weir/addr.special"], apart := false, laid := [("weir/addr.special", laid_weir_addr_special), ("weir/icmp.discoveries", laid_weir_icmp_discoveries)], narrowed := true }
def IcmpNdBackUptoSaid : Prop := icmpNdBackUptoRow.holds Tryd.pinned (OpenSpec.upto icmpNdBackSpec)

/-- 'weirlaw8.IcmpQuiet', WHERE WHAT IT READS IS OF BULK AT MOST 1048576: true; the input reads as it did. -/
def icmpQuietUptoRow : OpenClaim := { program := "ytijipfciimcnpaadoor", sum := "ef6e50daacb8194a11b74a1d2ba13f38eba0c7c122b170aeb8ecf122abc7b37a", func := "weir/weirlaw8.IcmpQuiet", spec := "icmpQuiet", unfollowed := true, recurses := true, named := ["weir/icmp.tellings", "weir/addr.special", "weir/ip4.widths", "weir/ip6.kinds", "weir/ip6.widths", "weir/ip6.pieceWidths", "weir/icmp.widths"], apart := false, laid := [("weir/addr.special", laid_weir_addr_special), ("weir/ip4.widths", laid_weir_ip4_widths), ("weir/ip6.widths", laid_weir_ip6_widths), ("weir/ip6.kinds", laid_weir_ip6_kinds), ("weir/ip6.pieceWidths", laid_weir_ip6_pieceWidths), ("weir/icmp.widths", laid_weir_icmp_widths), ("weir/icmp.tellings", laid_weir_icmp_tellings)], narrowed := true }
def IcmpQuietUptoSaid : Prop := icmpQuietUptoRow.holds Tryd.pinned (OpenSpec.upto icmpQuietSpec)

/-- 'weirlaw8.IcmpNdPuts', WHERE WHAT IT READS IS OF BULK AT MOST 1048576: true; the input reads as it did. -/
def icmpNdPutsUptoRow : OpenClaim := { program := "ytijipfciimcnpaadoor", sum := "ef6e50daacb8194a11b74a1d2ba13f38eba0c7c122b170aeb8ecf122abc7b37a", func := "weir/weirlaw8.IcmpNdPuts", spec := "icmpNdPuts", unfollowed := true, recurses := true, named := ["weir/icmp.discoveries", "weir/addr.special"], apart := false, laid := [("weir/addr.special", laid_weir_addr_special), ("weir/icmp.discoveries", laid_weir_icmp_discoveries)], narrowed := true }
def IcmpNdPutsUptoSaid : Prop := icmpNdPutsUptoRow.holds Tryd.pinned (OpenSpec.upto icmpNdPutsSpec)

/-- 'weirlaw8.IcmpNds', WHERE WHAT IT READS IS OF BULK AT MOST 1048576: true; the input reads as it did. -/
def icmpNdsUptoRow : OpenClaim := { program := "ytijipfciimcnpaadoor", sum := "ef6e50daacb8194a11b74a1d2ba13f38eba0c7c122b170aeb8ecf122abc7b37a", func := "weir/weirlaw8.IcmpNds", spec := "icmpNds", unfollowed := true, recurses := true, named := ["weir/icmp.discoveries", "weir/addr.special"], apart := false, laid := [("weir/addr.special", laid_weir_addr_special), ("weir/icmp.discoveries", laid_weir_icmp_discoveries)], narrowed := true }
def IcmpNdsUptoSaid : Prop := icmpNdsUptoRow.holds Tryd.pinned (OpenSpec.upto icmpNdsSpec)

/-- 'weirlaw8.IcmpAgain', WHERE WHAT IT READS IS OF BULK AT MOST 1048576: true; the input reads as it did. -/
def icmpAgainUptoRow : OpenClaim := { program := "ytijipfciimcnpaadoor", sum := "ef6e50daacb8194a11b74a1d2ba13f38eba0c7c122b170aeb8ecf122abc7b37a", func := "weir/weirlaw8.IcmpAgain", spec := "icmpAgain", unfollowed := true, recurses := true, named := ["weir/icmp.widths", "weir/icmp.discoveries", "weir/addr.special"], apart := false, laid := [("weir/addr.special", laid_weir_addr_special), ("weir/icmp.widths", laid_weir_icmp_widths), ("weir/icmp.discoveries", laid_weir_icmp_discoveries)], narrowed := true }
def IcmpAgainUptoSaid : Prop := icmpAgainUptoRow.holds Tryd.pinned (OpenSpec.upto icmpAgainSpec)

end Rows
end Go.Proofs.YtijipfciimcnpaaDoor
