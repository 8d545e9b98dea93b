/-
  Layer 15: New, turn, know, told, older (of an entry).
-/
import Derived.Test.YtnpipngiehohgaaNgFn1
namespace Go.Proofs.Ytnpipngiehohgaa
open Go.RowKit Go.Maps

theorem EntAt.set {w : World} {e e' : EV} (h : EntAt w e) (i : Nat) (v : Value) (hP : e'.P = e.P) (hC : (enC e).setIfInBounds i v = enC e') : EntAt (w.setCell ⟨e.P, i, none⟩ v) e' := by
  unfold EntAt at h ⊢
  rw [hP, heap_setCell_same w e.P i _ _ v h, hC]
set_option maxHeartbeats 1600000 in
set_option maxRecDepth 100000 in
theorem turn_any (e : EV) (st tr : Int) (w : World) (h : EntAt w e) : Calls Try.prog 49 #[.pointer (some ⟨e.P, 0, none⟩), .int .i64 st, .int .i64 tr] w fun r w' => r = .returned (.tuple #[]) ∧ EntAt w' ⟨{ e.n with st := st, ag := 0, tr := tr }, e.P, e.lv⟩ ∧ Ch (fun q => q = e.P) w w' := by
  have c6 := h.cell 6
  have c7 := h.cell 7
  have c8 := h.cell 8
  have f6 := h.fz 6
  have f7 := h.fz 7
  have f8 := h.fz 8
  simp only [enC, List.getElem?_toArray, List.getElem?_cons_succ, List.getElem?_cons_zero] at c6 c7 c8
  have HE : Hid (EntAt w e) := h
  clear h
  go_enter Try.func49, Try.ntmps49
  go_wp2
  go_end0
  refine ⟨rfl, ?_, ?_⟩
  · have h1 : EntAt (w.setCell ⟨e.P, 6, none⟩ (.int .i64 st)) ⟨{ e.n with st := st }, e.P, e.lv⟩ := HE.out.set 6 _ rfl rfl
    have h2 := EntAt.set (e' := ⟨{ e.n with st := st, ag := 0 }, e.P, e.lv⟩) h1 7 (.int .i64 0) rfl rfl
    exact EntAt.set (e' := ⟨{ e.n with st := st, ag := 0, tr := tr }, e.P, e.lv⟩) h2 8 (.int .i64 tr) rfl rfl
  · exact (((Ch.refl (fun q => q = e.P) w).set _ _ rfl).set _ _ rfl).set _ _ rfl
theorem wpList_set_entmac {ops : Array Oper} {rest : List Oper} {o : Oper} {a : Act} {w : World} {Q : Exit → Act → World → Prop} (x y : Operand) (ho : o.op = .store 33 x y) (hd : o.dst = none) (e : EV) (m : Nat → Nat) (hx : a.eval x = .pointer (some ⟨e.P, 0, none⟩)) (hy : a.eval y = .agg (macC m)) (hb : EntAt w e)
    (hw : Region.wanted o (yielded ops a.tmps) = true) (hh : ∀ w', EntAt w' ⟨{ e.n with m := m }, e.P, e.lv⟩ → Ch (fun q => q = e.P) w w' → wpList Try.prog ops Q rest a w') : wpList Try.prog ops Q (o :: rest) a w := by
  have ht : w.there e.P 0 (macC m).size := fun j hj => by
    have hj' : j < 6 := hj
    rw [Nat.zero_add]
    refine ⟨?_, hb.fz j⟩
    rw [hb.cell]
    have : j = 0 ∨ j = 1 ∨ j = 2 ∨ j = 3 ∨ j = 4 ∨ j = 5 := by omega
    rcases this with rfl | rfl | rfl | rfl | rfl | rfl <;> rfl
  refine wpList_step fun K hK => ?_
  rw [if_pos hw]
  refine wp_store_mid 33 x y ho e.P 0 (macC m) hx hy ht Try.size_mac (by simp [macC, Value.oneCell']) (hK _ _ ?_)
  rw [hd]
  have h1 := EntAt.set (e' := ⟨{ e.n with m := fun i => if i < 1 then m i else e.n.m i }, e.P, e.lv⟩) hb 0 (.int .u8 (m 0 : Nat)) rfl rfl
  have h2 := EntAt.set (e' := ⟨{ e.n with m := fun i => if i < 2 then m i else e.n.m i }, e.P, e.lv⟩) h1 1 (.int .u8 (m 1 : Nat)) rfl rfl
  have h3 := EntAt.set (e' := ⟨{ e.n with m := fun i => if i < 3 then m i else e.n.m i }, e.P, e.lv⟩) h2 2 (.int .u8 (m 2 : Nat)) rfl rfl
  have h4 := EntAt.set (e' := ⟨{ e.n with m := fun i => if i < 4 then m i else e.n.m i }, e.P, e.lv⟩) h3 3 (.int .u8 (m 3 : Nat)) rfl rfl
  have h5 := EntAt.set (e' := ⟨{ e.n with m := fun i => if i < 5 then m i else e.n.m i }, e.P, e.lv⟩) h4 4 (.int .u8 (m 4 : Nat)) rfl rfl
  have h6 := EntAt.set (e' := ⟨{ e.n with m := m }, e.P, e.lv⟩) h5 5 (.int .u8 (m 5 : Nat)) rfl rfl
  exact hh _ h6 ((((((Ch.refl (fun q => q = e.P) w).set _ _ rfl).set _ _ rfl).set _ _ rfl).set _ _ rfl).set _ _ rfl |>.set _ _ rfl)
set_option maxHeartbeats 1600000 in
set_option maxRecDepth 100000 in
theorem know_any (e : EV) (m : Nat → Nat) (st : Int) (w : World) (h : EntAt w e) : Calls Try.prog 52 #[.pointer (some ⟨e.P, 0, none⟩), .agg (macC m), .int .i64 st] w fun r w' => r = .returned e.lv ∧ EntAt w' ⟨{ e.n with m := m, st := st, ag := 0, tr := 0, ln := [] }, e.P, .slice none 0 0⟩ ∧ Ch (fun q => q = e.P) w w' := by
  have HE : Hid (EntAt w e) := h
  clear h
  have hb := mac_new w m
  have bel : Below w.heap.size w (w.alloc (.cells (macC m) 33)) := (Below.refl _ _).alloc (Nat.le_refl _) _
  obtain ⟨CX, hC⟩ : ∃ C, C = macC m := ⟨_, rfl⟩
  obtain ⟨W, hW⟩ : ∃ W, W = w.alloc (.cells (macC m) 33) := ⟨_, rfl⟩
  rw [← hW] at hb bel
  obtain ⟨B, hB⟩ : ∃ B, B = w.heap.size := ⟨_, rfl⟩
  rw [← hB] at hb
  have HBX : Hid (MacAt W B m) := hb
  rw [← hC] at hW ⊢
  have HOX : Hid (w.heap.size = B) := hB.symm
  have HLX : Hid (Below w.heap.size w W) := bel
  have HWX : Hid (w.alloc (.cells CX 33) = W) := hW.symm
  clear hb hW hB hC bel
  have HE1 : Hid (EntAt W e) := HE.out.below HLX.out
  have HPB : Hid (¬ e.P = B) := by have := HE.out.lt; have := HOX.out; show ¬ e.P = B; omega
  have c9 := HE1.out.cell 9
  simp only [enC, List.getElem?_toArray, List.getElem?_cons_succ, List.getElem?_cons_zero] at c9
  go_enter Try.func52, Try.ntmps52
  go_upto_region 1 with fail
  rw [HOX.out, HWX.out]
  go_upto_region 2 with fail
  go_wp2_with (first | (refine wpList_load_mac (.tmp 4) rfl B m rfl HBX.out rfl ?_) | (refine wpList_set_entmac (.tmp 16) (.tmp 14) rfl rfl e m rfl rfl HE1.out rfl ?_))
  intro w2 hE2 k2
  have HE2 : Hid (EntAt w2 ⟨{ e.n with m := m }, e.P, e.lv⟩ ∧ Ch (fun q => q = e.P) W w2) := ⟨hE2, k2⟩
  have c9' := EntAt.cell hE2 9
  have f9' := EntAt.fz hE2 9
  simp only [enC, List.getElem?_toArray, List.getElem?_cons_succ, List.getElem?_cons_zero] at c9' f9'
  clear hE2 k2 c9
  go_wp2_with fail
  obtain ⟨w3, hw3⟩ : ∃ w3, w3 = w2.setCell ⟨e.P, 9, none⟩ (.slice none 0 0) := ⟨_, rfl⟩
  rw [← hw3]
  have HE3 : Hid (EntAt w3 ⟨{ e.n with m := m, ln := [] }, e.P, .slice none 0 0⟩ ∧ Ch (fun q => q = e.P) w w3) := by
    rw [hw3]
    exact ⟨EntAt.set (e' := ⟨{ e.n with m := m, ln := [] }, e.P, .slice none 0 0⟩) HE2.out.1 9 (.slice none 0 0) rfl rfl, ((Ch.ofBelow HLX.out).trans HE2.out.2 (fun _ _ h => h)).set _ _ rfl⟩
  have QT : Hid _ := turn_any ⟨{ e.n with m := m, ln := [] }, e.P, .slice none 0 0⟩ st 0 w3 HE3.out.1
  clear hw3 c9' f9'
  go_wp2_with fail
  refine Calls.mono QT.out ?_
  rintro r w4 ⟨rfl, h4, k4⟩
  have HE4 : Hid (EntAt w4 ⟨{ e.n with m := m, st := st, ag := 0, tr := 0, ln := [] }, e.P, .slice none 0 0⟩ ∧ Ch (fun q => q = e.P) w w4) := ⟨h4, HE3.out.2.trans k4 (fun _ _ h => h)⟩
  clear h4 k4
  go_wp2_with fail
  go_ret
  exact ⟨rfl, HE4.out⟩
theorem yields_int {ops : Array Oper} {o : Oper} {a : Act} {S : World → Prop} (x : Operand) (ho : o.op = .load 3 x) (p : Addr) (u : Value) (hx : a.eval x = .pointer (some p)) (hw : Region.wanted o (yielded ops a.tmps) = true) (hS : ∀ w, S w → w.cell? p = some u) : YieldsIf Try.prog ops S o u a := by
  refine .inl ⟨hw, fun w hb => ?_⟩
  have hc := hS w hb
  have hu := Try.underlying3
  obtain ⟨dst, op, type, pos, after, guard⟩ := o
  simp only at ho
  subst ho
  simp only [execOp, Sem.run_bind, Sem.run_pure]
  rw [hx]
  simp [Instr.loadAt, go_sem, hc]
theorem yields_ints {ops : Array Oper} {o : Oper} {a : Act} {S : World → Prop} (x : Operand) (ho : o.op = .load 39 x) (p : Addr) (u : Value) (hx : a.eval x = .pointer (some p)) (hw : Region.wanted o (yielded ops a.tmps) = true) (hS : ∀ w, S w → w.cell? p = some u) : YieldsIf Try.prog ops S o u a := by
  refine .inl ⟨hw, fun w hb => ?_⟩
  have hc := hS w hb
  have hu := Try.underlying39
  obtain ⟨dst, op, type, pos, after, guard⟩ := o
  simp only at ho
  subst ho
  simp only [execOp, Sem.run_bind, Sem.run_pure]
  rw [hx]
  simp [Instr.loadAt, go_sem, hc]
theorem yields_map {ops : Array Oper} {o : Oper} {a : Act} {S : World → Prop} (x : Operand) (ho : o.op = .load 100 x) (p : Addr) (u : Value) (hx : a.eval x = .pointer (some p)) (hw : Region.wanted o (yielded ops a.tmps) = true) (hS : ∀ w, S w → w.cell? p = some u) : YieldsIf Try.prog ops S o u a := by
  refine .inl ⟨hw, fun w hb => ?_⟩
  have hc := hS w hb
  have hu := Try.underlying100
  obtain ⟨dst, op, type, pos, after, guard⟩ := o
  simp only at ho
  subst ho
  simp only [execOp, Sem.run_bind, Sem.run_pure]
  rw [hx]
  simp [Instr.loadAt, go_sem, hc]
theorem run_buildnb (v : NB) (w : World) : (Instr.build 48 #[(0, .int .i64 v.k.pt), (1, .agg (ipCells v.k.V v.k.x)), (2, .agg (macC v.m)), (3, .int .i64 v.st), (4, .int .i64 v.ag), (5, .int .i64 v.tr), (6, .int .i64 v.wt)]).run Try.prog w = .ok (.agg (nbC v)) w := by kernel_rfl
theorem yields_buildnb {ops : Array Oper} {S : World → Prop} {o : Oper} {a : Act} (y0 y1 y2 y3 y4 y5 y6 : Operand) (ho : o.op = .build 48 #[(0, y0), (1, y1), (2, y2), (3, y3), (4, y4), (5, y5), (6, y6)]) (v : NB) (h0 : a.eval y0 = .int .i64 v.k.pt) (h1 : a.eval y1 = .agg (ipCells v.k.V v.k.x)) (h2 : a.eval y2 = .agg (macC v.m)) (h3 : a.eval y3 = .int .i64 v.st) (h4 : a.eval y4 = .int .i64 v.ag) (h5 : a.eval y5 = .int .i64 v.tr) (h6 : a.eval y6 = .int .i64 v.wt)
    (hw : Region.wanted o (yielded ops a.tmps) = true) : YieldsIf Try.prog ops S o (.agg (nbC v)) a := by
  refine .inl ⟨hw, fun w _ => ?_⟩
  obtain ⟨dst, op, type, pos, after, guard⟩ := o
  simp only at ho
  subst ho
  simp only [execOp, Sem.run_bind, List.map_toArray, List.map_cons, List.map_nil, h0, h1, h2, h3, h4, h5, h6, run_buildnb v w, Result.andThen_ok]
  rfl
def EN.nb (e : EN) : NB := ⟨e.k, e.m, e.st, e.ag, e.tr, (e.ln.length : Int)⟩
set_option maxHeartbeats 3200000 in
set_option maxRecDepth 100000 in
theorem told_any (e : EV) (k : KV) (w : World) (h : EntAt w e) (la : Option Addr) (n lc : Nat) (hv : e.lv = .slice la n lc) : Calls Try.prog 56 #[.pointer (some ⟨e.P, 0, none⟩), .agg (kC k)] w fun r w' => r = .returned (.agg (nbC ⟨k, e.n.m, e.n.st, e.n.ag, e.n.tr, (n : Int)⟩)) ∧ Below w.heap.size w w' := by
  have HLV : Hid (e.lv = .slice la n lc) := hv
  have HE : Hid (EntAt w e) := h
  clear h hv
  have hb := key_new w k
  have bel : Below w.heap.size w (w.alloc (.cells (kC k) 98)) := (Below.refl _ _).alloc (Nat.le_refl _) _
  obtain ⟨CX, hC⟩ : ∃ C, C = kC k := ⟨_, rfl⟩
  obtain ⟨W, hW⟩ : ∃ W, W = w.alloc (.cells (kC k) 98) := ⟨_, rfl⟩
  rw [← hW] at hb bel
  obtain ⟨B, hB⟩ : ∃ B, B = w.heap.size := ⟨_, rfl⟩
  rw [← hB] at hb
  have HBX : Hid (KeyAt W B k) := hb
  rw [← hC] at hW ⊢
  have HOX : Hid (w.heap.size = B) := hB.symm
  have HLX : Hid (Below w.heap.size w W) := bel
  have HWX : Hid (w.alloc (.cells CX 98) = W) := hW.symm
  clear hb hW hB hC bel
  have HPB : Hid (e.P < B) := by have := HE.out.lt; have := HOX.out; show e.P < B; omega
  have HSZ : Hid (W.heap.size = B + 1) := by show _ = _; rw [← HWX.out, World.size_alloc, HOX.out]
  obtain ⟨Y, hY⟩ : ∃ Y, Y = W.alloc (.cells (nbC nz) 48) := ⟨_, rfl⟩
  have bY : Below W.heap.size W Y := by rw [hY]; exact (Below.refl _ _).alloc (Nat.le_refl _) _
  have HY : Hid (EntAt Y e ∧ KeyAt Y B k ∧ NbrAt Y (B + 1) nz ∧ Below w.heap.size w Y) := ⟨(HE.out.below HLX.out).below bY, HBX.out.below bY, by rw [hY, ← HSZ.out]; exact nbr_new W nz, bthen HLX.out bY⟩
  have HYE : Hid (W.alloc (.cells (nbC nz) 48) = Y) := hY.symm
  clear hY bY
  go_enter Try.func56, Try.ntmps56
  go_wp2_with (first | (rw [HOX.out, HWX.out]; refine wpList_alloc_nbr rfl rfl ?_; rw [HSZ.out, HYE.out]))
  simp only [Act.put, List.setIfInBounds_toArray, List.set_cons_succ, List.set_cons_zero]
  refine MixH.start (fun A => EntAt A e ∧ KeyAt A B k) (by kernel_rfl) ?_
  obtain ⟨wA, hwA⟩ : ∃ wA, wA = Y.drew := ⟨_, rfl⟩
  have bdr : Below Y.heap.size Y wA := by rw [hwA]; exact (Below.refl _ _).drew
  have hS : EntAt wA e ∧ KeyAt wA B k := ⟨HY.out.1.below bdr, HY.out.2.1.below bdr⟩
  have HZA : Hid (NbrAt wA (B + 1) nz) := HY.out.2.2.1.below bdr
  have HWA : Hid (Below w.heap.size w wA) := bthen HY.out.2.2.2 bdr
  rw [← hwA]
  clear hwA bdr
  refine MixH.takes [true, false, true, false, true, true, true, false, true, true, true, false, true, true, true, false, true, true, true, false, true, true, true] 10 (by kernel_rfl) (by kernel_rfl) (by decide) (by kernel_rfl) hS (fun K hK => ?_)
  simp only [Mix.pick]
  repeat (go_big_quiet_step (fail))
  refine wpQuiet_nil (hK _ ?_)
  clear hK K
  refine MixH.take 9 1 _ (.int .i64 k.pt) rfl (by kernel_rfl) (by kernel_rfl) (by kernel_rfl) (by kernel_rfl) (yields_int (.tmp 5) rfl ⟨B, 0, none⟩ (.int .i64 k.pt) rfl rfl (fun A hA => hA.2.cell 0)) hS (fun a' ha => ?_)
  simp only [Act.put, List.setIfInBounds_toArray, List.set_cons_succ, List.set_cons_zero] at ha
  subst ha
  refine MixH.take 8 3 _ (.agg (ipCells k.V k.x)) rfl (by kernel_rfl) (by kernel_rfl) (by kernel_rfl) (by kernel_rfl) (yields_ipr (.tmp 7) rfl B 1 k.V k.x rfl rfl (fun A hA => hA.2.ip)) hS (fun a' ha => ?_)
  simp only [Act.put, List.setIfInBounds_toArray, List.set_cons_succ, List.set_cons_zero] at ha
  subst ha
  refine MixH.take 7 7 _ (.agg (macC e.n.m)) rfl (by kernel_rfl) (by kernel_rfl) (by kernel_rfl) (by kernel_rfl) (yields_mac (.tmp 11) rfl e.P 0 e.n.m rfl rfl (fun A hA => hA.1.mac)) hS (fun a' ha => ?_)
  simp only [Act.put, List.setIfInBounds_toArray, List.set_cons_succ, List.set_cons_zero] at ha
  subst ha
  refine MixH.take 6 11 _ (.int .i64 e.n.st) rfl (by kernel_rfl) (by kernel_rfl) (by kernel_rfl) (by kernel_rfl) (yields_int (.tmp 15) rfl ⟨e.P, 6, none⟩ (.int .i64 e.n.st) rfl rfl (fun A hA => hA.1.cell 6)) hS (fun a' ha => ?_)
  simp only [Act.put, List.setIfInBounds_toArray, List.set_cons_succ, List.set_cons_zero] at ha
  subst ha
  refine MixH.take 5 15 _ (.int .i64 e.n.ag) rfl (by kernel_rfl) (by kernel_rfl) (by kernel_rfl) (by kernel_rfl) (yields_int (.tmp 19) rfl ⟨e.P, 7, none⟩ (.int .i64 e.n.ag) rfl rfl (fun A hA => hA.1.cell 7)) hS (fun a' ha => ?_)
  simp only [Act.put, List.setIfInBounds_toArray, List.set_cons_succ, List.set_cons_zero] at ha
  subst ha
  refine MixH.take 4 19 _ (.int .i64 e.n.tr) rfl (by kernel_rfl) (by kernel_rfl) (by kernel_rfl) (by kernel_rfl) (yields_int (.tmp 23) rfl ⟨e.P, 8, none⟩ (.int .i64 e.n.tr) rfl rfl (fun A hA => hA.1.cell 8)) hS (fun a' ha => ?_)
  simp only [Act.put, List.setIfInBounds_toArray, List.set_cons_succ, List.set_cons_zero] at ha
  subst ha
  refine MixH.take 3 23 _ (.slice la n lc) rfl (by kernel_rfl) (by kernel_rfl) (by kernel_rfl) (by kernel_rfl) (yields_ints (.tmp 27) rfl ⟨e.P, 9, none⟩ (.slice la n lc) rfl rfl (fun A hA => by rw [hA.1.cell 9]; show some e.lv = _; rw [HLV.out])) hS (fun a' ha => ?_)
  simp only [Act.put, List.setIfInBounds_toArray, List.set_cons_succ, List.set_cons_zero] at ha
  subst ha
  refine MixH.takes [false, false, false, false, false, false, false, false, false, false, false, false, false, false, false, false, false, false, false, false, false, false, false, false, true] 2 (by kernel_rfl) (by kernel_rfl) (by decide) (by kernel_rfl) hS (fun K hK => ?_)
  simp only [Mix.pick]
  repeat (go_big_quiet_step (fail))
  refine wpQuiet_nil (hK _ ?_)
  clear hK K
  refine MixH.take 1 25 _ (.agg (nbC ⟨k, e.n.m, e.n.st, e.n.ag, e.n.tr, (n : Int)⟩)) rfl (by kernel_rfl) (by kernel_rfl) (by kernel_rfl) (by kernel_rfl) (yields_buildnb (.tmp 6) (.tmp 8) (.tmp 12) (.tmp 16) (.tmp 20) (.tmp 24) (.tmp 29) rfl ⟨k, e.n.m, e.n.st, e.n.ag, e.n.tr, (n : Int)⟩ rfl rfl rfl rfl rfl rfl rfl rfl) hS (fun a' ha => ?_)
  simp only [Act.put, List.setIfInBounds_toArray, List.set_cons_succ, List.set_cons_zero] at ha
  subst ha
  refine MixH.one [false, false, false, false, false, false, false, false, false, false, false, false, false, false, false, false, false, false, false, false, false, false, false, false, false, false, true] 0 26 _ rfl rfl (by kernel_rfl) (by kernel_rfl) (fun K hK => ?_)
  simp only [Mix.pick]
  refine wpList_store_nbr (.tmp 4) (.tmp 30) rfl rfl (B + 1) nz ⟨k, e.n.m, e.n.st, e.n.ag, e.n.tr, (n : Int)⟩ rfl rfl HZA.out rfl ?_
  intro wE hE kE
  have HEND : Hid (NbrAt wE (B + 1) ⟨k, e.n.m, e.n.st, e.n.ag, e.n.tr, (n : Int)⟩ ∧ Below w.heap.size w wE) := ⟨hE, by
    have h1 := HWA.out
    have h2 := HOX.out
    exact h1.trans (kE.below (fun q hq => by have hq' : q = B + 1 := hq; omega) h1.size)⟩
  replace hS : EntAt wE e ∧ KeyAt wE B k := ⟨hS.1.ch kE (fun hq => by have hq' : e.P = B + 1 := hq; have := HPB.out; omega), hS.2.ch kE (fun hq => by have hq' : B = B + 1 := hq; omega)⟩
  clear hE kE
  go_wp2
  refine ⟨rfl, hK _ _ hS ?_⟩
  clear hK K
  refine MixH.done (by kernel_rfl) ?_
  clear hS
  go_wp2
  refine bodyPost_ret (results_nbr rfl _ _ (B + 1) _ rfl HEND.out.1) rfl ?_
  exact ⟨rfl, HEND.out.2⟩
end Go.Proofs.Ytnpipngiehohgaa
