/-
  Holes and answers held against one another.
-/
import Derived.Test.YtcoaghcmbhogjaaHOne
namespace Go.Proofs.Ytcoaghcmbhogjaa
open Go.RowKit Go.Maps
namespace H11

set_option maxHeartbeats 1600000 in
set_option maxRecDepth 100000 in
theorem eq2 (a b c d : Int) (w : World) (n : Nat) : (Op.equalIn (n + 2) 45 (.agg #[.int .i64 a, .int .i64 b]) (.agg #[.int .i64 c, .int .i64 d])).run Try.prog w = .ok (decide (a = c ∧ b = d)) w := by
  have u5 := Try.underlying3
  have a5 := Try.isAgg3
  have z5 := Try.sizeOf3
  rw [show (n + 2 : Nat) = (n + 1) + 1 from rfl, Op.equalIn]
  simp only [Sem.run_bind, run_underlying Try.underlying45, Result.andThen_ok]
  simp only [Std.Legacy.Range.forIn_eq_forIn_range', Std.Legacy.Range.size, Nat.sub_zero, Nat.add_sub_cancel, Nat.div_one, List.range'_succ, List.range'_zero, List.forIn_cons, List.forIn_nil]
  go_simp
  (repeat' split) <;> simp_all
theorem Try.gapGuard : Try.prog.eqGuardType Try.prog.depth 45 = false := by kernel_rfl
theorem wpList_neq_gap {ops : Array Oper} {rest : List Oper} {o : Oper} {a : Act} {w : World} {Q : Exit → Act → World → Prop} (X Y : Operand) (ho : o.op = .binOp .neq 45 X Y 45) (p q r s : Int) (hx : a.eval X = .agg #[.int .i64 p, .int .i64 q]) (hy : a.eval Y = .agg #[.int .i64 r, .int .i64 s])
    (hw : Region.wanted o (yielded ops a.tmps) = true) (h : wpList Try.prog ops Q rest (a.put o.dst (.bool (!decide (p = r ∧ q = s)))) w) : wpList Try.prog ops Q (o :: rest) a w := by
  refine wpList_step fun K hK => ?_
  rw [if_pos hw]
  have hrun : (execOp a.eval o).run Try.prog w = .ok (.value (.bool (!decide (p = r ∧ q = s)))) w := by
    obtain ⟨dst, op, type, pos, after, guard⟩ := o
    simp only at ho
    subst ho
    simp only [execOp, Sem.run_bind, Sem.run_pure, hx, hy, run_eqGuard_agg w .neq 45 _ _ _ _ Try.gapGuard, Result.andThen_ok, run_neq_struct, eq2 _ _ _ _ w 9998]
  unfold Oper.wp
  rw [hrun]
  exact hK _ _ h
theorem yields_neq_gap {ops : Array Oper} {o : Oper} {a : Act} {S : World → Prop} (X Y : Operand) (ho : o.op = .binOp .neq 45 X Y 45) (p q r s : Int) (hx : a.eval X = .agg #[.int .i64 p, .int .i64 q]) (hy : a.eval Y = .agg #[.int .i64 r, .int .i64 s]) (hw : Region.wanted o (yielded ops a.tmps) = true) :
    YieldsIf Try.prog ops S o (.bool (!decide (p = r ∧ q = s))) a := by
  refine .inl ⟨hw, fun w hb => ?_⟩
  obtain ⟨dst, op, type, pos, after, guard⟩ := o
  simp only at ho
  subst ho
  simp only [execOp, Sem.run_bind, Sem.run_pure, hx, hy, run_eqGuard_agg w .neq 45 _ _ _ _ Try.gapGuard, Result.andThen_ok, run_neq_struct, eq2 _ _ _ _ w 9998]
end H11
end Go.Proofs.Ytcoaghcmbhogjaa
