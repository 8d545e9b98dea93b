/-
  The statements' sameGaps, of the same holes; an answer held against the zero answer.
-/
import Derived.Test.YtcoaghcmbhogjaaHBytes
import Derived.Test.YtcoaghcmbhogjaaHFstP
namespace Go.Proofs.Ytcoaghcmbhogjaa
open Go.RowKit Go.Maps
namespace H11

theorem yields_gap {ops : Array Oper} {o : Oper} {a : Act} {S : World → Prop} (x : Operand) (ho : o.op = .load 45 x) (g off : Nat) (p q : Int) (hx : a.eval x = .pointer (some ⟨g, off, none⟩)) (hw : Region.wanted o (yielded ops a.tmps) = true) (hS : ∀ w, S w → w.cell? ⟨g, off, none⟩ = some (.int .i64 p) ∧ w.cell? ⟨g, off + 1, none⟩ = some (.int .i64 q)) : YieldsIf Try.prog ops S o (.agg #[.int .i64 p, .int .i64 q]) a := by
  refine .inl ⟨hw, fun w hb => ?_⟩
  obtain ⟨h1, h2⟩ := hS w hb
  have hu := Try.underlying45
  have hu3 := Try.underlying3
  have hz := Try.sizeOf45
  obtain ⟨dst, op, type, pos, after, guard⟩ := o
  simp only at ho
  subst ho
  simp only [execOp, Sem.run_bind, Sem.run_pure]
  rw [hx]
  simp [Instr.loadAt, go_sem, h1, h2]
set_option maxRecDepth 100000 in
set_option maxHeartbeats 1600000 in
theorem eqFit (a b : Int) (m : Bool) (w : World) (n : Nat) : (Op.equalIn (n + 2) 33 (.agg #[.int .i64 a, .int .i64 b, .bool m]) (.agg #[.int .i64 a, .int .i64 b, .bool m])).run Try.prog w = .ok true w := by
  have u5 := Try.underlying3
  have a5 := Try.isAgg3
  have z5 := Try.sizeOf3
  have u6 := Try.underlying4
  have a6 := Try.isAgg4
  have z6 := Try.sizeOf4
  rw [show (n + 2 : Nat) = (n + 1) + 1 from rfl, Op.equalIn]
  simp only [Sem.run_bind, run_underlying Try.underlying33, Result.andThen_ok]
  go_simp
end H11
end Go.Proofs.Ytcoaghcmbhogjaa
