/-
  The statements' sameGaps, of two rows that hold the same holes; an answer that is the zero answer.
-/
import Derived.Test.YtcoaghcmbhogjaaHSg
namespace Go.Proofs.Ytcoaghcmbhogjaa
open Go.RowKit Go.Maps
namespace H11

theorem yields_neq_same {ops : Array Oper} {o : Oper} {a : Act} {S : World → Prop} (X Y : Operand) (ho : o.op = .binOp .neq 45 X Y 45) (p q : Int) (hx : a.eval X = .agg #[.int .i64 p, .int .i64 q]) (hy : a.eval Y = .agg #[.int .i64 p, .int .i64 q]) (hw : Region.wanted o (yielded ops a.tmps) = true) :
    YieldsIf Try.prog ops S o (.bool false) a := by
  have := yields_neq_gap (S := S) X Y ho p q p q hx hy hw
  simpa using this
theorem Try.fitGuard : Try.prog.eqGuardType Try.prog.depth 33 = false := by kernel_rfl
theorem wpList_neq_fit {ops : Array Oper} {rest : List Oper} {o : Oper} {a : Act} {w : World} {Q : Exit → Act → World → Prop} (X Y : Operand) (ho : o.op = .binOp .neq 33 X Y 33) (p q : Int) (m : Bool) (hx : a.eval X = .agg #[.int .i64 p, .int .i64 q, .bool m]) (hy : a.eval Y = .agg #[.int .i64 p, .int .i64 q, .bool m])
    (hw : Region.wanted o (yielded ops a.tmps) = true) (h : wpList Try.prog ops Q rest (a.put o.dst (.bool false)) w) : wpList Try.prog ops Q (o :: rest) a w := by
  refine wpList_step fun K hK => ?_
  rw [if_pos hw]
  have hrun : (execOp a.eval o).run Try.prog w = .ok (.value (.bool false)) w := by
    obtain ⟨dst, op, type, pos, after, guard⟩ := o
    simp only at ho
    subst ho
    simp only [execOp, Sem.run_bind, Sem.run_pure, hx, hy, run_eqGuard_agg w .neq 33 _ _ _ _ Try.fitGuard, Result.andThen_ok, run_neq_struct, eqFit _ _ _ w 9998, Bool.not_true]
  unfold Oper.wp
  rw [hrun]
  exact hK _ _ h

set_option maxRecDepth 100000 in
set_option maxHeartbeats 1600000 in
theorem sameG_any (w : World) (ua ub : Option Addr) (n ca cb b1 b2 : Nat) (gs : List (Nat × Nat)) (hn : gs.length = n) (hn5 : n ≤ 65535) (h1 : w.ownsRow b1 45 2 (.slice ua n ca) n (gC gs)) (h2 : w.ownsRow b2 45 2 (.slice ub n cb) n (gC gs)) :
    Calls Try.prog 20 #[.slice ua n ca, .slice ub n cb] w fun r w' => r = .returned (.bool true) ∧ Below w.heap.size w w' := by
  have HN : Hid (gs.length = n) := hn
  have H1 : Hid _ := h1
  have H2 : Hid _ := h2
  have hne : ((n : Int) != (n : Int)) = false := by simp
  clear hn h1 h2
  go_enter Try.func20, Try.ntmps20
  go_wp2
  go_loopw [5] (fun ix wr => ∃ k : Nat, k ≤ n ∧ ix = .int .i64 (k : Int) ∧ Below w.heap.size w wr) (fun ix _ => n - (intOf ix).toNat)
  case atStart => exact ⟨0, Nat.zero_le _, rfl, Below.refl _ _⟩
  case round =>
    obtain ⟨k, hk, rfl, hb⟩ := hrel
    by_cases hlt : k < n
    · obtain ⟨g, hga, _, hgl, hcc⟩ := row_gap H1.out HN.out (by omega)
      obtain ⟨g', hga', _, hgl', hcc'⟩ := row_gap H2.out HN.out (by omega)
      subst hga hga'
      obtain ⟨x, y, hxy⟩ : ∃ x y, gs.getD k (0, 0) = (x, y) := ⟨_, _, rfl⟩
      have q1 := hcc k hlt
      have q2 := hcc' k hlt
      rw [hxy] at q1 q2
      have hgb : g < w.heap.size := World.block_lt_of_cell? w _ q1.1
      have hgb' : g' < w.heap.size := World.block_lt_of_cell? w _ q2.1
      have d1 : (k : Int) < (n : Int) := by omega
      clear hxy hcc hcc'
      go_upto_region 6 with fail
      refine MixH.start (fun A => A.cell? ⟨g, k * 2, none⟩ = some (.int .i64 (x : Int)) ∧ A.cell? ⟨g, k * 2 + 1, none⟩ = some (.int .i64 (y : Int)) ∧ A.cell? ⟨g', k * 2, none⟩ = some (.int .i64 (x : Int)) ∧ A.cell? ⟨g', k * 2 + 1, none⟩ = some (.int .i64 (y : Int))) (by kernel_rfl) ?_
      obtain ⟨wA, hwA⟩ : ∃ wA, wA = wr.drew := ⟨_, rfl⟩
      replace hb : Below w.heap.size w wA := by rw [hwA]; exact drew_below hb
      have hS : wA.cell? ⟨g, k * 2, none⟩ = some (.int .i64 (x : Int)) ∧ wA.cell? ⟨g, k * 2 + 1, none⟩ = some (.int .i64 (y : Int)) ∧ wA.cell? ⟨g', k * 2, none⟩ = some (.int .i64 (x : Int)) ∧ wA.cell? ⟨g', k * 2 + 1, none⟩ = some (.int .i64 (y : Int)) := ⟨(World.cell?_of_block (hb.block g hgb)).trans q1.1, (World.cell?_of_block (hb.block g hgb)).trans q1.2, (World.cell?_of_block (hb.block g' hgb')).trans q2.1, (World.cell?_of_block (hb.block g' hgb')).trans q2.2⟩
      rw [← hwA]
      clear hwA q1 q2
      refine MixH.takes [true, true, true, false, true, true, true] 3 (by kernel_rfl) (by kernel_rfl) (by decide) (by kernel_rfl) hS (fun K hK => ?_)
      simp only [Mix.pick]
      repeat (go_big_quiet_step (fail))
      refine wpQuiet_nil (hK _ ?_)
      clear hK K
      refine MixH.take 2 3 _ (.agg #[.int .i64 (x : Int), .int .i64 (y : Int)]) rfl (by kernel_rfl) (by kernel_rfl) (by kernel_rfl) (by kernel_rfl) (yields_gap (.tmp 19) rfl g (k * 2) (x : Int) (y : Int) rfl rfl (fun A hA => ⟨hA.1, hA.2.1⟩)) hS (fun a' ha => ?_)
      simp only [Act.put, List.setIfInBounds_toArray, List.set_cons_succ, List.set_cons_zero] at ha
      subst ha
      refine MixH.take 1 7 _ (.agg #[.int .i64 (x : Int), .int .i64 (y : Int)]) rfl (by kernel_rfl) (by kernel_rfl) (by kernel_rfl) (by kernel_rfl) (yields_gap (.tmp 23) rfl g' (k * 2) (x : Int) (y : Int) rfl rfl (fun A hA => ⟨hA.2.2.1, hA.2.2.2⟩)) hS (fun a' ha => ?_)
      simp only [Act.put, List.setIfInBounds_toArray, List.set_cons_succ, List.set_cons_zero] at ha
      subst ha
      refine MixH.take 0 8 _ (.bool false) rfl (by kernel_rfl) (by kernel_rfl) (by kernel_rfl) (by kernel_rfl) (yields_neq_same (.tmp 20) (.tmp 24) rfl (x : Int) (y : Int) rfl rfl rfl) hS (fun a' ha => ?_)
      simp only [Act.put, List.setIfInBounds_toArray, List.set_cons_succ, List.set_cons_zero] at ha
      subst ha
      refine MixH.done (by kernel_rfl) ?_
      clear hS
      go_wp2
      go_roundw
      case rel => exact ⟨k + 1, by omega, by go_num, hb⟩
      case measure => simp [intOf]; omega
    · obtain rfl : k = n := by omega
      have d1 : ¬ (k : Int) < (k : Int) := by omega
      clear hlt
      go_wp2
      go_ret
      exact ⟨rfl, hb⟩
end H11
end Go.Proofs.Ytcoaghcmbhogjaa
