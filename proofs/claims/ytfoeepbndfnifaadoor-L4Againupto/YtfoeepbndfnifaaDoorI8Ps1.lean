/-
  sum.isAddress; the document's version.
-/
import Derived.Test.YtfoeepbndfnifaaDoorI4Ip
import Derived.Test.YtfoeepbndfnifaaDoorI8Sum
import Derived.Test.YtfoeepbndfnifaaDoorPOwn
namespace Go.Proofs.YtfoeepbndfnifaaDoor
open Go.RowKit

theorem u8_hi (m : Nat) (h : m ≤ 65535) : IntKind.u8.wrap ((m : Int) / 256) = ((m / 256 : Nat) : Int) := by
  simp [IntKind.wrap, IntKind.bits, IntKind.signed]; omega
theorem u8_lo (m : Nat) : IntKind.u8.wrap (m : Int) = ((m % 256 : Nat) : Int) := by
  simp [IntKind.wrap, IntKind.bits, IntKind.signed]
def restZ (x : Nat → Nat) : Bool := decide (x 4 = 0 ∧ x 5 = 0 ∧ x 6 = 0 ∧ x 7 = 0 ∧ x 8 = 0 ∧ x 9 = 0 ∧ x 10 = 0 ∧ x 11 = 0 ∧ x 12 = 0 ∧ x 13 = 0 ∧ x 14 = 0 ∧ x 15 = 0)
def isAddr (V : Int) (x : Nat → Nat) : Bool := if V = 4 then restZ x else decide (V = 6)

set_option maxRecDepth 100000 in
theorem clear4 (w : World) (B : Nat) (hB : B = w.heap.size) (y0 y1 y2 y3 y4 y5 y6 y7 y8 y9 y10 y11 y12 y13 y14 y15 : Value) (ty : TypeId) :
    (Builtin.clear_ #[25] ty #[.slice (some ⟨B, 0, none⟩) 4 16]).run Tryd.prog (w.alloc (.cells #[y0, y1, y2, y3, y4, y5, y6, y7, y8, y9, y10, y11, y12, y13, y14, y15] 22)) = .ok (.tuple #[]) (w.alloc (.cells #[.int .u8 0, .int .u8 0, .int .u8 0, .int .u8 0, y4, y5, y6, y7, y8, y9, y10, y11, y12, y13, y14, y15] 22)) := by
  subst hB
  obtain ⟨i0, hi, hz0, hz1, hz2⟩ := info_parts Tryd.infoByte
  have hzc : (Builtin.zeroCells #[Value.int IntKind.u8 0] 4).toList = [.int .u8 0, .int .u8 0, .int .u8 0, .int .u8 0] := by kernel_rfl
  simp [Builtin.clear_, run_underlying Tryd.underlying25, zeroValue, typeInfo, hi, hz0, hzc, storeCells, go_sem]
set_option maxHeartbeats 1600000 in
set_option maxRecDepth 100000 in
theorem eqz (x : Nat → Nat) (w : World) : (Op.equalIn 10000 22 (.agg #[.int .u8 0, .int .u8 0, .int .u8 0, .int .u8 0, .int .u8 (x 4 : Nat), .int .u8 (x 5 : Nat), .int .u8 (x 6 : Nat), .int .u8 (x 7 : Nat), .int .u8 (x 8 : Nat), .int .u8 (x 9 : Nat), .int .u8 (x 10 : Nat), .int .u8 (x 11 : Nat), .int .u8 (x 12 : Nat), .int .u8 (x 13 : Nat), .int .u8 (x 14 : Nat), .int .u8 (x 15 : Nat)]) (.agg #[.int .u8 0, .int .u8 0, .int .u8 0, .int .u8 0, .int .u8 0, .int .u8 0, .int .u8 0, .int .u8 0, .int .u8 0, .int .u8 0, .int .u8 0, .int .u8 0, .int .u8 0, .int .u8 0, .int .u8 0, .int .u8 0])).run Tryd.prog w = .ok (restZ x) w := by
  have u5 := Tryd.underlying5
  have a5 := Tryd.isAgg5
  have z5 := Tryd.sizeOf5
  rw [show (10000 : Nat) = 9999 + 1 from rfl, Op.equalIn]
  simp only [Sem.run_bind, run_underlying Tryd.underlying22, Result.andThen_ok]
  simp only [Std.Legacy.Range.forIn_eq_forIn_range', Std.Legacy.Range.size, Nat.sub_zero, Nat.add_sub_cancel, Nat.div_one, List.range'_succ, List.range'_zero, List.forIn_cons, List.forIn_nil]
  go_simp
  unfold restZ
  (repeat' split) <;> simp_all
set_option maxHeartbeats 1600000 in
set_option maxRecDepth 100000 in
theorem isAddress_any (V : Int) (x : Nat → Nat) (w : World) :
    Calls Tryd.prog 68 #[.agg (ipCells V x)] w fun e w' => e = .returned (.bool (isAddr V x)) ∧ Below w.heap.size w w' := by
  unfold ipCells
  by_cases h4 : V = 4
  · subst h4
    have hcl := clear4 (w.alloc (.cells (ipCells 4 x) 24)) (w.heap.size + 1) (by simp) (.int .u8 (x 0 : Nat)) (.int .u8 (x 1 : Nat)) (.int .u8 (x 2 : Nat)) (.int .u8 (x 3 : Nat)) (.int .u8 (x 4 : Nat)) (.int .u8 (x 5 : Nat)) (.int .u8 (x 6 : Nat)) (.int .u8 (x 7 : Nat)) (.int .u8 (x 8 : Nat)) (.int .u8 (x 9 : Nat)) (.int .u8 (x 10 : Nat)) (.int .u8 (x 11 : Nat)) (.int .u8 (x 12 : Nat)) (.int .u8 (x 13 : Nat)) (.int .u8 (x 14 : Nat)) (.int .u8 (x 15 : Nat)) 0
    unfold ipCells at hcl
    have heq := eqz x
    go_enter Tryd.func68, Tryd.ntmps68
    go_wp2
    go_ret
    exact ⟨congrArg (fun b => Ending.returned (.bool b)) (by simp [isAddr]), ((Below.refl _ _).alloc (Nat.le_refl _) _).alloc (by simp) _⟩
  · have h4' : (V == 4) = false := by simpa using h4
    go_enter Tryd.func68, Tryd.ntmps68
    go_wp2
    go_ret
    refine ⟨congrArg (fun b => Ending.returned (.bool b)) ?_, (Below.refl _ _).alloc (Nat.le_refl _) _⟩
    rw [isAddr, if_neg h4]
    by_cases h6 : V = 6
    · subst h6; rfl
    · rw [decide_eq_false h6]; simpa using h6
end Go.Proofs.YtfoeepbndfnifaaDoor
