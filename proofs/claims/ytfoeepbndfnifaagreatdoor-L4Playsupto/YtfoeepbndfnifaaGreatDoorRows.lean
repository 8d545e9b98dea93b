/-
  NARROWER THAN 'FOR EVERY INPUT', by the rows' own cells (each row's printed sentence says how): L4Udp: laid · L4Tcp: laid · L4Options: laid · L4Plays: laid · L4Lent: laid.
  DERIVED. THE GIVEN ROWS OF THIS SEAT. 5 by the template 'for every input the law returns true; each argument reads behind the call as it read before'; 0 by the template 'total and deterministic' (their statements: YtfoeepbndfnifaaGreatDoorTotals.lean).
  GIVEN WITH THE SEED: the statements are not yours to turn. If you find one false, say at which input.
  Laid BY PROGRAM, IN A SANDBOX (cutbox-rows.mjs): the forced cells as the released guide's own fill.sh prints them over the translation f82e405064c96bce… (all of the seat's roots in one cut). By AI agents, Wed Nov 11 2026. No macro, syntax, notation, axiom, sorry.
-/
import Derived.Test.YtfoeepbndfnifaaGreatDoorChecked
import GoSem.Claim
import GoSem.ClaimJoined
import GoSem.ClaimMapViews
import Derived.JoinedTies
import Derived.KernelRfl
namespace Go.Proofs.YtfoeepbndfnifaaGreatDoor
/- THE CELL 'sum', in the pinned program and in every row, IS THE sha256 OF THE DUMP (.gsa) THAT YtfoeepbndfnifaaGreatDoorProg.lean LOADS. Nothing in Lean hashes anything: it is a label: what it is worth is what the hold of that sum in a sandbox is worth. -/
noncomputable def Tryz.pinned : Pinned := { name := "ytfoeepbndfnifaagreatdoor", sum := "f82e405064c96bce7c200e4c835de9701faae457ab3d43c26d45085932d57e7e", checked := Tryz.checked }
namespace Rows
def none {H : Type} : Left H := { results := [], args := [] }

/- WHAT THE LISTED PACKAGE-LEVEL VARIABLES READ AS WHEN THE CALL BEGINS. Each datum BY PROGRAM (the guide's laid-datum.mjs) off the statement by which the dump's own 'gosem.cut.vars' lays the variable. In a bare row this is a premise. The card (YtfoeepbndfnifaaGreatDoorCards.lean) ties it to the program's text. -/
def laid_weir_l4_lengths {H : Type} : DataW H := .agg [.agg [.lit (.int .i64 2), .lit (.int .i64 4)], .agg [.lit (.int .i64 3), .lit (.int .i64 3)], .agg [.lit (.int .i64 4), .lit (.int .i64 2)], .agg [.lit (.int .i64 5), .lit (.int .i64 10)], .agg [.lit (.int .i64 5), .lit (.int .i64 18)], .agg [.lit (.int .i64 5), .lit (.int .i64 26)], .agg [.lit (.int .i64 5), .lit (.int .i64 34)], .agg [.lit (.int .i64 8), .lit (.int .i64 10)]]
def laid_weir_l4_tcpWidths {H : Type} : DataW H := .agg [.lit (.int .i64 16), .lit (.int .i64 16), .lit (.int .i64 32), .lit (.int .i64 32), .lit (.int .i64 4), .lit (.int .i64 4), .lit (.int .i64 8), .lit (.int .i64 16), .lit (.int .i64 16), .lit (.int .i64 16)]
def laid_weir_l4_udpWidths {H : Type} : DataW H := .agg [.lit (.int .i64 16), .lit (.int .i64 16), .lit (.int .i64 16), .lit (.int .i64 16)]

/-- 'weirlaw9.L4Udp': WHATEVER THE INPUT: true; the input reads as it did. -/
def l4UdpSpec : ChangeSpec := { name := "l4Udp", fn := fun _ => fun
  | [d] => { results := [.lit (.bool true)], args := [d] }
  | _ => none }
def l4UdpRow : OpenClaim := { program := "ytfoeepbndfnifaagreatdoor", sum := "f82e405064c96bce7c200e4c835de9701faae457ab3d43c26d45085932d57e7e", func := "weir/weirlaw9.L4Udp", spec := "l4Udp", unfollowed := true, recurses := true, named := ["weir/l4.udpWidths", "weir/l4.tcpWidths", "weir/l4.lengths"], apart := false, laid := [("weir/l4.lengths", laid_weir_l4_lengths), ("weir/l4.tcpWidths", laid_weir_l4_tcpWidths), ("weir/l4.udpWidths", laid_weir_l4_udpWidths)] }
def L4UdpSaid : Prop := l4UdpRow.holds Tryz.pinned (OpenSpec.ofChange l4UdpSpec)

/-- ITS FALSE NEIGHBOUR: 'it returns false'. Refute it at one input. -/
def l4UdpWrong : ChangeSpec := { name := "l4Udp", fn := fun _ => fun
  | [d] => { results := [.lit (.bool false)], args := [d] }
  | _ => none }
def L4UdpWrongFalsely : Prop := l4UdpRow.holds Tryz.pinned (OpenSpec.ofChange l4UdpWrong)

/-- 'weirlaw9.L4Tcp': WHATEVER THE INPUT: true; the input reads as it did. -/
def l4TcpSpec : ChangeSpec := { name := "l4Tcp", fn := fun _ => fun
  | [d] => { results := [.lit (.bool true)], args := [d] }
  | _ => none }
def l4TcpRow : OpenClaim := { program := "ytfoeepbndfnifaagreatdoor", sum := "f82e405064c96bce7c200e4c835de9701faae457ab3d43c26d45085932d57e7e", func := "weir/weirlaw9.L4Tcp", spec := "l4Tcp", unfollowed := true, recurses := true, named := ["weir/l4.udpWidths", "weir/l4.tcpWidths", "weir/l4.lengths"], apart := false, laid := [("weir/l4.lengths", laid_weir_l4_lengths), ("weir/l4.tcpWidths", laid_weir_l4_tcpWidths), ("weir/l4.udpWidths", laid_weir_l4_udpWidths)] }
def L4TcpSaid : Prop := l4TcpRow.holds Tryz.pinned (OpenSpec.ofChange l4TcpSpec)

/-- ITS FALSE NEIGHBOUR: 'it returns false'. Refute it at one input. -/
def l4TcpWrong : ChangeSpec := { name := "l4Tcp", fn := fun _ => fun
  | [d] => { results := [.lit (.bool false)], args := [d] }
  | _ => none }
def L4TcpWrongFalsely : Prop := l4TcpRow.holds Tryz.pinned (OpenSpec.ofChange l4TcpWrong)

/-- 'weirlaw9.L4Options': WHATEVER THE INPUT: true; the input reads as it did. -/
def l4OptionsSpec : ChangeSpec := { name := "l4Options", fn := fun _ => fun
  | [d] => { results := [.lit (.bool true)], args := [d] }
  | _ => none }
def l4OptionsRow : OpenClaim := { program := "ytfoeepbndfnifaagreatdoor", sum := "f82e405064c96bce7c200e4c835de9701faae457ab3d43c26d45085932d57e7e", func := "weir/weirlaw9.L4Options", spec := "l4Options", unfollowed := true, recurses := true, named := ["weir/l4.udpWidths", "weir/l4.tcpWidths", "weir/l4.lengths"], apart := false, laid := [("weir/l4.lengths", laid_weir_l4_lengths), ("weir/l4.tcpWidths", laid_weir_l4_tcpWidths), ("weir/l4.udpWidths", laid_weir_l4_udpWidths)] }
def L4OptionsSaid : Prop := l4OptionsRow.holds Tryz.pinned (OpenSpec.ofChange l4OptionsSpec)

/-- ITS FALSE NEIGHBOUR: 'it returns false'. Refute it at one input. -/
def l4OptionsWrong : ChangeSpec := { name := "l4Options", fn := fun _ => fun
  | [d] => { results := [.lit (.bool false)], args := [d] }
  | _ => none }
def L4OptionsWrongFalsely : Prop := l4OptionsRow.holds Tryz.pinned (OpenSpec.ofChange l4OptionsWrong)

/-- 'weirlaw9.L4Plays': WHATEVER THE INPUT: true; the input reads as it did. -/
def l4PlaysSpec : ChangeSpec := { name := "l4Plays", fn := fun _ => fun
  | [d] => { results := [.lit (.bool true)], args := [d] }
  | _ => none }
def l4PlaysRow : OpenClaim := { program := "ytfoeepbndfnifaagreatdoor", sum := "f82e405064c96bce7c200e4c835de9701faae457ab3d43c26d45085932d57e7e", func := "weir/weirlaw9.L4Plays", spec := "l4Plays", unfollowed := true, recurses := true, named := ["weir/l4.udpWidths", "weir/l4.tcpWidths", "weir/l4.lengths"], apart := false, laid := [("weir/l4.lengths", laid_weir_l4_lengths), ("weir/l4.tcpWidths", laid_weir_l4_tcpWidths), ("weir/l4.udpWidths", laid_weir_l4_udpWidths)] }
def L4PlaysSaid : Prop := l4PlaysRow.holds Tryz.pinned (OpenSpec.ofChange l4PlaysSpec)

/-- ITS FALSE NEIGHBOUR: 'it returns false'. Refute it at one input. -/
def l4PlaysWrong : ChangeSpec := { name := "l4Plays", fn := fun _ => fun
  | [d] => { results := [.lit (.bool false)], args := [d] }
  | _ => none }
def L4PlaysWrongFalsely : Prop := l4PlaysRow.holds Tryz.pinned (OpenSpec.ofChange l4PlaysWrong)

/-- 'weirlaw9.L4Lent': WHATEVER THE INPUT: true; the input reads as it did. -/
def l4LentSpec : ChangeSpec := { name := "l4Lent", fn := fun _ => fun
  | [d1, d2, d3, d4, d5, d6] => { results := [.lit (.bool true)], args := [d1, d2, d3, d4, d5, d6] }
  | _ => none }
def l4LentRow : OpenClaim := { program := "ytfoeepbndfnifaagreatdoor", sum := "f82e405064c96bce7c200e4c835de9701faae457ab3d43c26d45085932d57e7e", func := "weir/weirlaw9.L4Lent", spec := "l4Lent", unfollowed := true, recurses := true, named := ["weir/l4.udpWidths", "weir/l4.tcpWidths", "weir/l4.lengths"], apart := false, laid := [("weir/l4.lengths", laid_weir_l4_lengths), ("weir/l4.tcpWidths", laid_weir_l4_tcpWidths), ("weir/l4.udpWidths", laid_weir_l4_udpWidths)] }
def L4LentSaid : Prop := l4LentRow.holds Tryz.pinned (OpenSpec.ofChange l4LentSpec)

/-- ITS FALSE NEIGHBOUR: 'it returns false'. Refute it at one input. -/
def l4LentWrong : ChangeSpec := { name := "l4Lent", fn := fun _ => fun
  | [d1, d2, d3, d4, d5, d6] => { results := [.lit (.bool false)], args := [d1, d2, d3, d4, d5, d6] }
  | _ => none }
def L4LentWrongFalsely : Prop := l4LentRow.holds Tryz.pinned (OpenSpec.ofChange l4LentWrong)

/- THE SECOND FORM. 'bulk': how many values and letters a reading holds, each counted each time it is reached (what is shared counts as often as it is met; a slice's spare places count too). A statement '..UptoSaid' is the law's where the arguments, and the package variables that the reading takes, are together of bulk at most 1048576: NARROWER than '..Said'. Prove '..Said' where nothing that the law and all that it calls make is longer than what came in: it says more and counts as full. Else prove '..UptoSaid'. A law counts once. -/
mutual
def uptoBulk {H : Type} : DataW H → Nat
  | .lit (.string bytes) => bytes.length + 1
  | .lit _ => 1
  | .nil => 1
  | .ptr d => uptoBulk d + 1
  | .slice elems spare => uptoBulkAll elems + uptoBulkAll spare + 1
  | .agg parts => uptoBulkAll parts + 1
  | .iface _ d => uptoBulk d + 1
  | .map entries => uptoBulkEntries entries + 1
  | .held _ => 1
def uptoBulkAll {H : Type} : List (DataW H) → Nat
  | [] => 0
  | d :: r => uptoBulk d + uptoBulkAll r
def uptoBulkEntries {H : Type} : List (Lit × DataW H) → Nat
  | [] => 0
  | x :: r => uptoBulkEntry x + uptoBulkEntries r
def uptoBulkEntry {H : Type} : Lit × DataW H → Nat
  | (.string bytes, d) => bytes.length + uptoBulk d + 1
  | (_, d) => uptoBulk d + 1
 end
def uptoSmall : (H : Type) → List (DataW H) → Bool := fun _ ds => decide (uptoBulkAll ds ≤ 1048576)
def OpenSpec.upto (s : _root_.Go.ChangeSpec) : _root_.Go.OpenSpec := { _root_.Go.OpenSpec.ofChange s with cond := some uptoSmall }

/-- 'weirlaw9.L4Udp', WHERE WHAT IT READS IS OF BULK AT MOST 1048576: true; the input reads as it did. -/
def l4UdpUptoRow : OpenClaim := { program := "ytfoeepbndfnifaagreatdoor", sum := "f82e405064c96bce7c200e4c835de9701faae457ab3d43c26d45085932d57e7e", func := "weir/weirlaw9.L4Udp", spec := "l4Udp", unfollowed := true, recurses := true, named := ["weir/l4.udpWidths", "weir/l4.tcpWidths", "weir/l4.lengths"], apart := false, laid := [("weir/l4.lengths", laid_weir_l4_lengths), ("weir/l4.tcpWidths", laid_weir_l4_tcpWidths), ("weir/l4.udpWidths", laid_weir_l4_udpWidths)], narrowed := true }
def L4UdpUptoSaid : Prop := l4UdpUptoRow.holds Tryz.pinned (OpenSpec.upto l4UdpSpec)

/-- 'weirlaw9.L4Tcp', WHERE WHAT IT READS IS OF BULK AT MOST 1048576: true; the input reads as it did. -/
def l4TcpUptoRow : OpenClaim := { program := "ytfoeepbndfnifaagreatdoor", sum := "f82e405064c96bce7c200e4c835de9701faae457ab3d43c26d45085932d57e7e", func := "weir/weirlaw9.L4Tcp", spec := "l4Tcp", unfollowed := true, recurses := true, named := ["weir/l4.udpWidths", "weir/l4.tcpWidths", "weir/l4.lengths"], apart := false, laid := [("weir/l4.lengths", laid_weir_l4_lengths), ("weir/l4.tcpWidths", laid_weir_l4_tcpWidths), ("weir/l4.udpWidths", laid_weir_l4_udpWidths)], narrowed := true }
def L4TcpUptoSaid : Prop := l4TcpUptoRow.holds Tryz.pinned (OpenSpec.upto l4TcpSpec)

/-- 'weirlaw9.L4Options', WHERE WHAT IT READS IS OF BULK AT MOST 1048576: true; the input reads as it did. -/
def l4OptionsUptoRow : OpenClaim := { program := "ytfoeepbndfnifaagreatdoor", sum := "f82e405064c96bce7c200e4c835de9701faae457ab3d43c26d45085932d57e7e", func := "weir/weirlaw9.L4Options", spec := "l4Options", unfollowed := true, recurses := true, named := ["weir/l4.udpWidths", "weir/l4.tcpWidths", "weir/l4.lengths"], apart := false, laid := [("weir/l4.lengths", laid_weir_l4_lengths), ("weir/l4.tcpWidths", laid_weir_l4_tcpWidths), ("weir/l4.udpWidths", laid_weir_l4_udpWidths)], narrowed := true }
def L4OptionsUptoSaid : Prop := l4OptionsUptoRow.holds Tryz.pinned (OpenSpec.upto l4OptionsSpec)

/-- 'weirlaw9.L4Plays', WHERE WHAT IT READS IS OF BULK AT MOST 1048576: true; the input reads as it did. -/
def l4PlaysUptoRow : OpenClaim := { program := "ytfoeepbndfnifaagreatdoor", sum := "f82e405064c96bce7c200e4c835de9701faae457ab3d43c26d45085932d57e7e", func := "weir/weirlaw9.L4Plays", spec := "l4Plays", unfollowed := true, recurses := true, named := ["weir/l4.udpWidths", "weir/l4.tcpWidths", "weir/l4.lengths"], apart := false, laid := [("weir/l4.lengths", laid_weir_l4_lengths), ("weir/l4.tcpWidths", laid_weir_l4_tcpWidths), ("weir/l4.udpWidths", laid_weir_l4_udpWidths)], narrowed := true }
def L4PlaysUptoSaid : Prop := l4PlaysUptoRow.holds Tryz.pinned (OpenSpec.upto l4PlaysSpec)

/-- 'weirlaw9.L4Lent', WHERE WHAT IT READS IS OF BULK AT MOST 1048576: true; the input reads as it did. -/
def l4LentUptoRow : OpenClaim := { program := "ytfoeepbndfnifaagreatdoor", sum := "f82e405064c96bce7c200e4c835de9701faae457ab3d43c26d45085932d57e7e", func := "weir/weirlaw9.L4Lent", spec := "l4Lent", unfollowed := true, recurses := true, named := ["weir/l4.udpWidths", "weir/l4.tcpWidths", "weir/l4.lengths"], apart := false, laid := [("weir/l4.lengths", laid_weir_l4_lengths), ("weir/l4.tcpWidths", laid_weir_l4_tcpWidths), ("weir/l4.udpWidths", laid_weir_l4_udpWidths)], narrowed := true }
def L4LentUptoSaid : Prop := l4LentUptoRow.holds Tryz.pinned (OpenSpec.upto l4LentSpec)

end Rows
end Go.Proofs.YtfoeepbndfnifaaGreatDoor
