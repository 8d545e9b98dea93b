/-
  Addresses held against each other as a whole.
-/
import Derived.Test.YtmgbfjfaplobbaaAIp
namespace Go.Proofs.Ytmgbfjfaplobbaa
open Go.RowKit

set_option maxHeartbeats 1600000 in
set_option maxRecDepth 100000 in
theorem eq16 (x y : Nat → Nat) (w : World) (d : Nat) : (Op.equalIn (d + 2) 22 (.agg (arCells x)) (.agg (arCells y))).run Try.prog w = .ok (same16 x y) w := by
  have u5 := Try.underlying5
  have a5 := Try.isAgg5
  have z5 := Try.sizeOf5
  unfold arCells
  rw [show (d + 2 : Nat) = (d + 1) + 1 from rfl, Op.equalIn]
  simp only [Sem.run_bind, run_underlying Try.underlying22, Result.andThen_ok]
  simp only [Std.Legacy.Range.forIn_eq_forIn_range', Std.Legacy.Range.size, Nat.sub_zero, Nat.add_sub_cancel, Nat.div_one, List.range'_succ, List.range'_zero, List.forIn_cons, List.forIn_nil]
  go_simp
  unfold same16
  by_cases h0 : x 0 = y 0
  case neg => rw [if_neg (by omega), decide_eq_false (fun h => h0 h.1)]
  rw [if_pos (by omega)]
  by_cases h1 : x 1 = y 1
  case neg => rw [if_neg (by omega), decide_eq_false (fun h => h1 h.2.1)]
  rw [if_pos (by omega)]
  by_cases h2 : x 2 = y 2
  case neg => rw [if_neg (by omega), decide_eq_false (fun h => h2 h.2.2.1)]
  rw [if_pos (by omega)]
  by_cases h3 : x 3 = y 3
  case neg => rw [if_neg (by omega), decide_eq_false (fun h => h3 h.2.2.2.1)]
  rw [if_pos (by omega)]
  by_cases h4 : x 4 = y 4
  case neg => rw [if_neg (by omega), decide_eq_false (fun h => h4 h.2.2.2.2.1)]
  rw [if_pos (by omega)]
  by_cases h5 : x 5 = y 5
  case neg => rw [if_neg (by omega), decide_eq_false (fun h => h5 h.2.2.2.2.2.1)]
  rw [if_pos (by omega)]
  by_cases h6 : x 6 = y 6
  case neg => rw [if_neg (by omega), decide_eq_false (fun h => h6 h.2.2.2.2.2.2.1)]
  rw [if_pos (by omega)]
  by_cases h7 : x 7 = y 7
  case neg => rw [if_neg (by omega), decide_eq_false (fun h => h7 h.2.2.2.2.2.2.2.1)]
  rw [if_pos (by omega)]
  by_cases h8 : x 8 = y 8
  case neg => rw [if_neg (by omega), decide_eq_false (fun h => h8 h.2.2.2.2.2.2.2.2.1)]
  rw [if_pos (by omega)]
  by_cases h9 : x 9 = y 9
  case neg => rw [if_neg (by omega), decide_eq_false (fun h => h9 h.2.2.2.2.2.2.2.2.2.1)]
  rw [if_pos (by omega)]
  by_cases h10 : x 10 = y 10
  case neg => rw [if_neg (by omega), decide_eq_false (fun h => h10 h.2.2.2.2.2.2.2.2.2.2.1)]
  rw [if_pos (by omega)]
  by_cases h11 : x 11 = y 11
  case neg => rw [if_neg (by omega), decide_eq_false (fun h => h11 h.2.2.2.2.2.2.2.2.2.2.2.1)]
  rw [if_pos (by omega)]
  by_cases h12 : x 12 = y 12
  case neg => rw [if_neg (by omega), decide_eq_false (fun h => h12 h.2.2.2.2.2.2.2.2.2.2.2.2.1)]
  rw [if_pos (by omega)]
  by_cases h13 : x 13 = y 13
  case neg => rw [if_neg (by omega), decide_eq_false (fun h => h13 h.2.2.2.2.2.2.2.2.2.2.2.2.2.1)]
  rw [if_pos (by omega)]
  by_cases h14 : x 14 = y 14
  case neg => rw [if_neg (by omega), decide_eq_false (fun h => h14 h.2.2.2.2.2.2.2.2.2.2.2.2.2.2.1)]
  rw [if_pos (by omega)]
  by_cases h15 : x 15 = y 15
  case neg => rw [if_neg (by omega), decide_eq_false (fun h => h15 h.2.2.2.2.2.2.2.2.2.2.2.2.2.2.2)]
  rw [if_pos (by omega)]
  rw [decide_eq_true ⟨h0, h1, h2, h3, h4, h5, h6, h7, h8, h9, h10, h11, h12, h13, h14, h15⟩]
theorem Try.ipFields : Try.prog.underlying 24 = some (.struct (Try.prog.fieldsOf 24)) := by kernel_rfl
theorem Try.ipStood : Try.prog.stoodInHeld 24 = false := by kernel_rfl
theorem ip_part0 (V : Int) (x : Nat → Nat) (w : World) : (part 3 (ipCells V x) 0).run Try.prog w = .ok (.int .i64 V) w := by
  have a5 := Try.isAgg3
  have z5 := Try.sizeOf3
  unfold ipCells
  go_simp
set_option maxRecDepth 100000 in
theorem ip_part1 (V : Int) (x : Nat → Nat) (w : World) : (part 22 (ipCells V x) 1).run Try.prog w = .ok (.agg (arCells x)) w := by
  have a5 := Try.isAgg22
  have z5 := Try.sizeOf22
  unfold ipCells arCells
  go_simp
set_option maxHeartbeats 1600000 in
set_option maxRecDepth 100000 in
theorem eqIP (V U : Int) (x y : Nat → Nat) (w : World) (d : Nat) : (Op.equalIn (d + 3) 24 (.agg (ipCells V x)) (.agg (ipCells U y))).run Try.prog w = .ok (V == U && same16 x y) w := by
  rw [show (d + 3 : Nat) = (d + 2) + 1 from rfl, run_equalIn_struct w (d + 2) 24 _ _ Try.ipFields Try.ipStood]
  rw [show (Try.prog.fieldsOf 24).toList = [{ name := "V", type := 3, offset := 0, embedded := false, tag := "", pkgPath := "", byteOffset := 0 }, { name := "A", type := 22, offset := 1, embedded := false, tag := "", pkgPath := "", byteOffset := 8 }] from by kernel_rfl]
  simp only [Op.eqFields, Sem.run_bind, Sem.run_ite]
  rw [if_pos (by decide)]
  simp only [ip_part0, Result.andThen_ok]
  rw [show (d + 2 : Nat) = (d + 1) + 1 from rfl, run_equalIn_int w (d + 1) 3 .i64 .i64 V U Try.underlying3]
  cases h : V == U
  · simp
  · simp only [Result.andThen_ok, Bool.not_true, Bool.false_eq_true, if_false, ip_part1, eq16]
    cases same16 x y <;> simp
theorem eqIPtop (V U : Int) (x y : Nat → Nat) (w : World) : (Op.equalIn 10000 24 (.agg (ipCells V x)) (.agg (ipCells U y))).run Try.prog w = .ok (V == U && same16 x y) w := eqIP V U x y w 9997
theorem Try.ipGuard : Try.prog.eqGuardType Try.prog.depth 24 = false := by kernel_rfl
/-- two addresses held against each other, as one step of a walk -/
theorem wpList_neq_ip {ops : Array Oper} {rest : List Oper} {o : Oper} {a : Act} {w : World} {Q : Exit → Act → World → Prop} (X Y : Operand) (ho : o.op = .binOp .neq 24 X Y 24) (V U : Int) (x y : Nat → Nat) (hx : a.eval X = .agg (ipCells V x)) (hy : a.eval Y = .agg (ipCells U y))
    (hw : Region.wanted o (yielded ops a.tmps) = true) (h : wpList Try.prog ops Q rest (a.put o.dst (.bool (!(V == U && same16 x y)))) w) : wpList Try.prog ops Q (o :: rest) a w := by
  refine wpList_step fun K hK => ?_
  rw [if_pos hw]
  have hrun : (execOp a.eval o).run Try.prog w = .ok (.value (.bool (!(V == U && same16 x y)))) w := by
    obtain ⟨dst, op, type, pos, after, guard⟩ := o
    simp only at ho
    subst ho
    simp only [execOp, Sem.run_bind, Sem.run_pure, hx, hy, run_eqGuard_agg w .neq 24 _ _ _ _ Try.ipGuard, Result.andThen_ok, run_neq_struct, eqIPtop]
  unfold Oper.wp
  rw [hrun]
  exact hK _ _ h
theorem wpList_eql_ip {ops : Array Oper} {rest : List Oper} {o : Oper} {a : Act} {w : World} {Q : Exit → Act → World → Prop} (X Y : Operand) (ho : o.op = .binOp .eql 24 X Y 24) (V U : Int) (x y : Nat → Nat) (hx : a.eval X = .agg (ipCells V x)) (hy : a.eval Y = .agg (ipCells U y))
    (hw : Region.wanted o (yielded ops a.tmps) = true) (h : wpList Try.prog ops Q rest (a.put o.dst (.bool (V == U && same16 x y))) w) : wpList Try.prog ops Q (o :: rest) a w := by
  refine wpList_step fun K hK => ?_
  rw [if_pos hw]
  have hrun : (execOp a.eval o).run Try.prog w = .ok (.value (.bool (V == U && same16 x y))) w := by
    obtain ⟨dst, op, type, pos, after, guard⟩ := o
    simp only at ho
    subst ho
    simp only [execOp, Sem.run_bind, Sem.run_pure, hx, hy, run_eqGuard_agg w .eql 24 _ _ _ _ Try.ipGuard, Result.andThen_ok, run_eql_struct, eqIPtop]
  unfold Oper.wp
  rw [hrun]
  exact hK _ _ h
end Go.Proofs.Ytmgbfjfaplobbaa
