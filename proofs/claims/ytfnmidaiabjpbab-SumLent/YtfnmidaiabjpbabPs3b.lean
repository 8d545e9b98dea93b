/-
  An address is loaded from memory, as one step of a walk.
-/
import Derived.Test.YtfnmidaiabjpbabPs3
namespace Go.Proofs.Ytfnmidaiabjpbab
open Go.RowKit

set_option maxHeartbeats 1600000 in
set_option maxRecDepth 100000 in
theorem load_ip (w : World) (B : Nat) (V : Int) (f : Nat → Nat) (hb : Boxed w B V f) : (Instr.loadAt 44 (.pointer (some ⟨B, 0, none⟩))).run Try.prog w = .ok (.agg (ipCells V f)) w := by
  have v0 : w.cell? ⟨B, 0, none⟩ = some (.int .i64 V) := hb.ver
  have v1 : w.cell? ⟨B, 1, none⟩ = some (.int .u8 (f 0 : Nat)) := hb.byte 0 (by decide)
  have v2 : w.cell? ⟨B, 2, none⟩ = some (.int .u8 (f 1 : Nat)) := hb.byte 1 (by decide)
  have v3 : w.cell? ⟨B, 3, none⟩ = some (.int .u8 (f 2 : Nat)) := hb.byte 2 (by decide)
  have v4 : w.cell? ⟨B, 4, none⟩ = some (.int .u8 (f 3 : Nat)) := hb.byte 3 (by decide)
  have v5 : w.cell? ⟨B, 5, none⟩ = some (.int .u8 (f 4 : Nat)) := hb.byte 4 (by decide)
  have v6 : w.cell? ⟨B, 6, none⟩ = some (.int .u8 (f 5 : Nat)) := hb.byte 5 (by decide)
  have v7 : w.cell? ⟨B, 7, none⟩ = some (.int .u8 (f 6 : Nat)) := hb.byte 6 (by decide)
  have v8 : w.cell? ⟨B, 8, none⟩ = some (.int .u8 (f 7 : Nat)) := hb.byte 7 (by decide)
  have v9 : w.cell? ⟨B, 9, none⟩ = some (.int .u8 (f 8 : Nat)) := hb.byte 8 (by decide)
  have v10 : w.cell? ⟨B, 10, none⟩ = some (.int .u8 (f 9 : Nat)) := hb.byte 9 (by decide)
  have v11 : w.cell? ⟨B, 11, none⟩ = some (.int .u8 (f 10 : Nat)) := hb.byte 10 (by decide)
  have v12 : w.cell? ⟨B, 12, none⟩ = some (.int .u8 (f 11 : Nat)) := hb.byte 11 (by decide)
  have v13 : w.cell? ⟨B, 13, none⟩ = some (.int .u8 (f 12 : Nat)) := hb.byte 12 (by decide)
  have v14 : w.cell? ⟨B, 14, none⟩ = some (.int .u8 (f 13 : Nat)) := hb.byte 13 (by decide)
  have v15 : w.cell? ⟨B, 15, none⟩ = some (.int .u8 (f 14 : Nat)) := hb.byte 14 (by decide)
  have v16 : w.cell? ⟨B, 16, none⟩ = some (.int .u8 (f 15 : Nat)) := hb.byte 15 (by decide)
  clear hb
  simp [Instr.loadAt, go_sem, v0, v1, v2, v3, v4, v5, v6, v7, v8, v9, v10, v11, v12, v13, v14, v15, v16, ipCells]
theorem wpList_load_ip {ops : Array Oper} {rest : List Oper} {o : Oper} {a : Act} {w : World} {Q : Exit → Act → World → Prop} (x : Operand) (ho : o.op = .load 44 x) (B : Nat) (V : Int) (f : Nat → Nat) (hx : a.eval x = .pointer (some ⟨B, 0, none⟩)) (hb : Boxed w B V f)
    (hw : Region.wanted o (yielded ops a.tmps) = true) (h : wpList Try.prog ops Q rest (a.put o.dst (.agg (ipCells V f))) w) : wpList Try.prog ops Q (o :: rest) a w := by
  refine wpList_step fun K hK => ?_
  rw [if_pos hw]
  have hrun : (execOp a.eval o).run Try.prog w = .ok (.value (.agg (ipCells V f))) w := by
    obtain ⟨dst, op, type, pos, after, guard⟩ := o
    simp only at ho
    subst ho
    simp only [execOp, Sem.run_bind, Sem.run_pure]
    rw [hx, load_ip w B V f hb]
    rfl
  unfold Oper.wp
  rw [hrun]
  exact hK _ _ h
end Go.Proofs.Ytfnmidaiabjpbab
