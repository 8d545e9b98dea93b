/-
  addr.Valid.
-/
import Derived.Test.YteldiggaooeeeaaGreatDoorRtA1
namespace Go.Proofs.YteldiggaooeeeaaGreatDoor
open Go.RowKit

theorem bthen {a b c : World} (h : Below a.heap.size a b) (k : Below b.heap.size b c) : Below a.heap.size a c := h.trans (k.mono h.size)
theorem yields_int {ops : Array Oper} {o : Oper} {a : Act} {S : World → Prop} (x : Operand) (ho : o.op = .load 3 x) (p : Addr) (u : Value) (hx : a.eval x = .pointer (some p)) (hw : Region.wanted o (yielded ops a.tmps) = true) (hS : ∀ w, S w → w.cell? p = some u) : YieldsIf Tryz.prog ops S o u a := by
  refine .inl ⟨hw, fun w hb => ?_⟩
  have hc := hS w hb
  have hu := Tryz.underlying3
  obtain ⟨dst, op, type, pos, after, guard⟩ := o
  simp only at ho
  subst ho
  simp only [execOp, Sem.run_bind, Sem.run_pure]
  rw [hx]
  simp [Instr.loadAt, go_sem, hc]
theorem yields_ar {ops : Array Oper} {o : Oper} {a : Act} {S : World → Prop} (x : Operand) (ho : o.op = .load 26 x) (O off : Nat) (y : Nat → Nat) (hx : a.eval x = .pointer (some ⟨O, off, none⟩)) (hw : Region.wanted o (yielded ops a.tmps) = true) (hS : ∀ w, S w → w.rangeAt O off (arCells y).toList) : YieldsIf Tryz.prog ops S o (.agg (arCells y)) a :=
  yieldsIf_load_mid hw 26 x ho O off hx (arCells y).toList _ hS Tryz.underlying26 rfl Tryz.sizeAr
theorem Tryz.arGuard : Tryz.prog.eqGuardType Tryz.prog.depth 26 = false := by kernel_rfl
theorem yields_eql_ar {ops : Array Oper} {o : Oper} {a : Act} {S : World → Prop} (X Y : Operand) (ho : o.op = .binOp .eql 26 X Y 26) (x y : Nat → Nat) (hx : a.eval X = .agg (arCells x)) (hy : a.eval Y = .agg (arCells y)) (hw : Region.wanted o (yielded ops a.tmps) = true) : YieldsIf Tryz.prog ops S o (.bool (same16 x y)) a := by
  refine .inl ⟨hw, fun w _ => ?_⟩
  obtain ⟨dst, op, type, pos, after, guard⟩ := o
  simp only at ho
  subst ho
  simp only [execOp, Sem.run_bind, Sem.run_pure, hx, hy, run_eqGuard_agg w .eql 26 _ _ _ _ Tryz.arGuard, Result.andThen_ok, run_eql_struct, eq16 x y w 9998]
theorem Boxed.range {w : World} {B : Nat} {V : Int} {x : Nat → Nat} (h : Boxed w B V x) : w.rangeAt B 1 (arCells x).toList := by
  intro j v hv
  have hl : j < 16 := (List.getElem?_eq_some_iff.1 hv).1
  rw [h.byte j hl]
  have := ar_get x j hl
  rw [← Array.getElem?_toList, hv] at this
  exact this.symm
/-- an address of either version -/
def vld (V : Int) (x : Nat → Nat) : Bool := V == 6 || (V == 4 && same16 (hdA x 32) x)
set_option maxHeartbeats 1600000 in
set_option maxRecDepth 100000 in
theorem valid_any (V : Int) (x : Nat → Nat) (w : World) (hx : ∀ i, i < 16 → x i < 256) : Calls Tryz.prog 18 #[.agg (ipCells V x)] w fun e w' => e = .returned (.bool (vld V x)) ∧ Below w.heap.size w w' := by
  have hb := boxed_new w V x 28
  have bel : Below w.heap.size w (w.alloc (.cells (ipCells V x) 28)) := (Below.refl _ _).alloc (Nat.le_refl _) _
  obtain ⟨C, hC⟩ : ∃ C, C = ipCells V x := ⟨_, rfl⟩
  rw [← hC] at hb bel
  obtain ⟨W, hW⟩ : ∃ W, W = w.alloc (.cells C 28) := ⟨_, rfl⟩
  rw [← hW] at hb bel
  obtain ⟨B, hB⟩ : ∃ B, B = w.heap.size := ⟨_, rfl⟩
  rw [← hB] at hb
  have HB : Hid (w.heap.size = B) := hB.symm
  have HW : Hid (w.alloc (.cells C 28) = W) := hW.symm
  have HBX : Hid (Boxed W B V x) := hb
  have HX : Hid (∀ i, i < 16 → x i < 256) := hx
  have k0 : W.cell? ⟨B, 0, none⟩ = some (.int .i64 V) := hb.ver
  rw [← hC]
  clear hb hW hB hC hx
  go_enter Tryz.func18, Tryz.ntmps18
  go_upto_region 1 with fail
  rw [HB.out, HW.out]
  by_cases h6 : V = 6
  · subst h6
    go_region
    go_wp2
    go_ret
    exact ⟨by simp [vld], bel.drew⟩
  · by_cases h4 : V = 4
    · subst h4
      clear h6 k0
      refine MixH.start (fun A => Below W.heap.size W A) (by kernel_rfl) ?_
      obtain ⟨wA, hwA⟩ : ∃ wA, wA = W.drew := ⟨_, rfl⟩
      have hS : Below W.heap.size W wA := by rw [hwA]; exact (Below.refl _ _).drew
      rw [← hwA]
      clear hwA
      refine MixH.takes [true] 16 (by kernel_rfl) (by kernel_rfl) (by decide) (by kernel_rfl) hS (fun K hK => ?_)
      simp only [Mix.pick]
      repeat (go_big_quiet_step (fail))
      refine wpQuiet_nil (hK _ ?_)
      clear hK K
      refine MixH.take 15 1 _ (.int .i64 4) rfl (by kernel_rfl) (by kernel_rfl) (by kernel_rfl) (by kernel_rfl) (yields_int (.tmp 3) rfl ⟨B, 0, none⟩ _ rfl rfl (fun A hA => (HBX.out.old hA).ver)) hS (fun a' ha => ?_)
      simp only [Act.put, List.setIfInBounds_toArray, List.set_cons_succ, List.set_cons_zero] at ha
      subst ha
      refine MixH.takes [false, false, true, true] 13 (by kernel_rfl) (by kernel_rfl) (by decide) (by kernel_rfl) hS (fun K hK => ?_)
      simp only [Mix.pick]
      repeat (go_big_quiet_step (fail))
      refine wpQuiet_nil (hK _ ?_)
      clear hK K
      refine MixH.takes [false, false, false, false, true] 12 (by kernel_rfl) (by kernel_rfl) (by decide) (by kernel_rfl) hS (fun K hK => ?_)
      simp only [Mix.pick]
      repeat (go_big_quiet_step (fail))
      refine wpQuiet_nil (hK _ ?_)
      clear hK K
      refine MixH.take 11 5 _ (.int .i64 4) rfl (by kernel_rfl) (by kernel_rfl) (by kernel_rfl) (by kernel_rfl) (yields_int (.tmp 7) rfl ⟨B, 0, none⟩ _ rfl rfl (fun A hA => (HBX.out.old hA).ver)) hS (fun a' ha => ?_)
      simp only [Act.put, List.setIfInBounds_toArray, List.set_cons_succ, List.set_cons_zero] at ha
      subst ha
      refine MixH.takes [false, false, false, false, false, false, true, true] 9 (by kernel_rfl) (by kernel_rfl) (by decide) (by kernel_rfl) hS (fun K hK => ?_)
      simp only [Mix.pick]
      repeat (go_big_quiet_step (fail))
      refine wpQuiet_nil (hK _ ?_)
      clear hK K
      refine MixH.takes [false, false, false, false, false, false, false, false, true, false, false, true] 7 (by kernel_rfl) (by kernel_rfl) (by decide) (by kernel_rfl) hS (fun K hK => ?_)
      simp only [Mix.pick]
      repeat (go_big_quiet_step (fail))
      refine wpQuiet_nil (hK _ ?_)
      clear hK K
      refine MixH.take 6 9 _ (.agg (arCells x)) rfl (by kernel_rfl) (by kernel_rfl) (by kernel_rfl) (by kernel_rfl) (yields_ar (.tmp 11) rfl B 1 x rfl rfl (fun A hA => (HBX.out.old hA).range)) hS (fun a' ha => ?_)
      simp only [Act.put, List.setIfInBounds_toArray, List.set_cons_succ, List.set_cons_zero] at ha
      subst ha
      refine MixH.take 5 12 _ (.agg (arCells x)) rfl (by kernel_rfl) (by kernel_rfl) (by kernel_rfl) (by kernel_rfl) (yields_ar (.tmp 14) rfl B 1 x rfl rfl (fun A hA => (HBX.out.old hA).range)) hS (fun a' ha => ?_)
      simp only [Act.put, List.setIfInBounds_toArray, List.set_cons_succ, List.set_cons_zero] at ha
      subst ha
      refine MixH.one [false, false, false, false, false, false, false, false, false, false, true] 4 10 _ rfl rfl (by kernel_rfl) (by kernel_rfl) (fun K hK => ?_)
      simp only [Mix.pick]
      go_wp2_with fail
      refine Calls.mono (head_any x 32 wA (by decide) HX.out) ?_
      rintro e w4 ⟨rfl, hb4⟩
      have hS4 : Below W.heap.size W w4 := hS.trans (hb4.mono hS.size)
      clear hS hb4
      go_wp2
      refine ⟨rfl, hK _ _ hS4 ?_⟩
      clear hK K
      refine MixH.take 3 13 _ (.bool (same16 (hdA x 32) x)) rfl (by kernel_rfl) (by kernel_rfl) (by kernel_rfl) (by kernel_rfl) (yields_eql_ar (.tmp 13) (.tmp 15) rfl (hdA x 32) x rfl rfl rfl) hS4 (fun a' ha => ?_)
      simp only [Act.put, List.setIfInBounds_toArray, List.set_cons_succ, List.set_cons_zero] at ha
      subst ha
      refine MixH.takes [false, false, false, false, false, false, false, false, false, false, false, false, false, false, true, true, true] 0 (by kernel_rfl) (by kernel_rfl) (by decide) (by kernel_rfl) hS4 (fun K hK => ?_)
      simp only [Mix.pick]
      repeat (go_big_quiet_step (fail))
      refine wpQuiet_nil (hK _ ?_)
      clear hK K
      refine MixH.done (by kernel_rfl) ?_
      have bel4 := bthen bel hS4
      go_wp2
      go_ret
      exact ⟨by simp [vld], bel4⟩
    · have e6 : (V == 6) = false := beq_eq_false_iff_ne.2 h6
      have e4 : (V == 4) = false := beq_eq_false_iff_ne.2 h4
      clear h6 h4
      go_region
      go_wp2
      go_ret
      exact ⟨by simp [vld, e6, e4], bel.drew⟩
end Go.Proofs.YteldiggaooeeeaaGreatDoor
