/-
  weirlaw4.AddrParses: the walk.
-/
import Derived.Test.YteldiggaooeeeaaGreatDoorC4p
import Derived.Test.YteldiggaooeeeaaGreatDoorAdOp
namespace Go.Proofs.YteldiggaooeeeaaGreatDoor
open Go.RowKit Go.Maps

set_option maxHeartbeats 1600000 in
set_option maxRecDepth 100000 in
theorem addrParses.walk (w : World) (hT : Gl4 w) (a : Option Addr) (len cap : Nat) (rs : List OP) (hl : rs.length = len) (hr : ListG 61 opL OpOk w a rs) (hn : len ≤ maxLen) : Calls Tryz.prog 3 #[.slice a len cap] w fun r w' => r = .returned (.bool true) ∧ Below w.heap.size w w' := by
  have HT : Hid (Gl4 w) := hT
  have HL : Hid (rs.length = len ∧ ListG 61 opL OpOk w a rs ∧ len ≤ maxLen) := ⟨hl, hr, hn⟩
  clear hT hl hr hn
  go_enter Tryz.func3, Tryz.ntmps3
  go_wp2_with fail
  refine (started_any w HT.out.p HT.out.s).mono ?_
  rintro e w1 ⟨rfl, hb⟩
  have H1 : Hid (Below w.heap.size w w1) := hb
  clear hb
  go_wp2_with fail
  refine (upTo_any w1 a len cap rs HL.out.1 (HL.out.2.1.old H1.out) HL.out.2.2 1 3 (fun o hok hlo hhi A hA => plays_any o hok A (HT.out.s.old (H1.out.trans (hA.mono H1.out.size))) (fun _ C _ => parsed_any o C) (fun h => by omega))).mono ?_
  rintro e w2 ⟨rfl, hb⟩
  have H2 : Hid (Below w.heap.size w w2) := H1.out.trans (hb.mono H1.out.size)
  clear hb
  go_wp2
  go_ret
  exact ⟨rfl, H2.out⟩
end Go.Proofs.YteldiggaooeeeaaGreatDoor
