/-
  FlFn3: lemmas of the proof of FlowPlays, and walks through the functions that it calls.
-/
import Derived.Test.YtclpeepnngegaaaGreatDoorP00
import Derived.Test.YtclpeepnngegaaaGreatDoorP06
namespace Go.Proofs.YtclpeepnngegaaaGreatDoor
open Go.RowKit Go.Maps
theorem run_buildpl (p q : Int) (w : World) : (Instr.build 102 #[(0, .int .i64 p), (1, .int .i64 q)]).run Tryz.prog w = .ok (.agg (plC ⟨p, q⟩)) w := by kernel_rfl
theorem yields_buildpl {ops : Array Oper} {S : World → Prop} {o : Oper} {a : Act} (y0 y1 : Operand) (ho : o.op = .build 102 #[(0, y0), (1, y1)]) (p q : Int) (h0 : a.eval y0 = .int .i64 p) (h1 : a.eval y1 = .int .i64 q)
 (hw : Region.wanted o (yielded ops a.tmps) = true) : YieldsIf Tryz.prog ops S o (.agg (plC ⟨p, q⟩)) a := by
 refine .inl ⟨hw, fun w _ => ?_⟩
 obtain ⟨dst, op, type, pos, after, guard⟩ := o
 simp only at ho
 subst ho
 simp only [execOp, Sem.run_bind, List.map_toArray, List.map_cons, List.map_nil, h0, h1, run_buildpl p q w, Result.andThen_ok]
 rfl
theorem wpList_build_pl {ops : Array Oper} {rest : List Oper} {o : Oper} {a : Act} {w : World} {Q : Exit → Act → World → Prop} (y0 y1 : Operand) (ho : o.op = .build 102 #[(0, y0), (1, y1)]) (p q : Int) (h0 : a.eval y0 = .int .i64 p) (h1 : a.eval y1 = .int .i64 q) (hw : Region.wanted o (yielded ops a.tmps) = true)
 (h : wpList Tryz.prog ops Q rest (a.put o.dst (.agg (plC ⟨p, q⟩))) w) : wpList Tryz.prog ops Q (o :: rest) a w := by
 refine wpList_step fun K hK => ?_
 rw [if_pos hw]
 have hrun : (execOp a.eval o).run Tryz.prog w = .ok (.value (.agg (plC ⟨p, q⟩))) w := by
  obtain ⟨dst, op, type, pos, after, guard⟩ := o
  simp only at ho
  subst ho
  simp only [execOp, Sem.run_bind, List.map_toArray, List.map_cons, List.map_nil, h0, h1, run_buildpl p q w, Result.andThen_ok]
  rfl
 unfold Oper.wp
 rw [hrun]
 exact hK _ _ h
theorem wpList_lookq {ops : Array Oper} {rest : List Oper} {o : Oper} {a : Act} {w : World} {Q : Exit → Act → World → Prop} (m x : Operand) (ho : o.op = .lookup 68 m x false) (t M N : Nat) (c : CF) (E : List FV) (p : PL) (hp : p.Wf) (hm : a.eval m = .map (some N)) (hx : a.eval x = .agg (plC p)) (v : Value) (hv : ptF (fQ E p) = v) (hT : TA w t M N c E) (hw : Region.wanted o (yielded ops a.tmps) = true)
 (h : wpList Tryz.prog ops Q rest (a.put o.dst v) w) : wpList Tryz.prog ops Q (o :: rest) a w := by
 refine wpList_step fun K hK => ?_
 rw [if_pos hw]
 have hrun : (execOp a.eval o).run Tryz.prog w = .ok (.value v) w := by
  have hr := hT.lookq p hp
  rw [hv] at hr
  obtain ⟨dst, op, type, pos, after, guard⟩ := o
  simp only at ho
  subst ho
  simp only [execOp, Sem.run_bind, Sem.run_pure, hm, hx, hr, Result.andThen_ok]
 unfold Oper.wp
 rw [hrun]
 exact hK _ _ h
def frB (E : List FV) (pr po : Int) : Bool := (fQ E ⟨pr, po⟩).isNone
set_option maxHeartbeats 1600000 in
set_option maxRecDepth 100000 in
theorem free_any (t M N : Nat) (c : CF) (E : List FV) (w : World) (h : TA w t M N c E) (pr po : Int) (hp : PL.Wf ⟨pr, po⟩) : Calls Tryz.prog 67 #[.pointer (some ⟨t, 0, none⟩), .int .i64 pr, .int .i64 po] w fun r w' => r = .returned (.bool (frB E pr po)) ∧ w = w' := by
 have HC : Hid (TA w t M N c E ∧ PL.Wf ⟨pr, po⟩) := ⟨h, hp⟩
 have cq := TblAt.mq h.cb
 clear h hp
 cases hf : fQ E ⟨pr, po⟩ with
 | none =>
  have HV : Hid (ptF (fQ E ⟨pr, po⟩) = .pointer none) := by show _ = _; rw [hf]; rfl
  have HR : Hid (frB E pr po = true) := by show _ = _; unfold frB; rw [hf]; rfl
  clear hf
  go_enter Tryz.func67, Tryz.ntmps67
  go_wp2_with (first | (refine wpList_build_pl (.tmp 11) (.tmp 12) rfl pr po rfl rfl rfl ?_) | (refine wpList_lookq (.tmp 10) (.tmp 13) rfl t M N c E ⟨pr, po⟩ HC.out.2 rfl rfl (.pointer none) HV.out HC.out.1 rfl ?_))
  go_ret
  exact ⟨by rw [HR.out]; rfl, rfl⟩
 | some e =>
  have HV : Hid (ptF (fQ E ⟨pr, po⟩) = .pointer (some ⟨e.P, 0, none⟩)) := by show _ = _; rw [hf]; rfl
  have HR : Hid (frB E pr po = false) := by show _ = _; unfold frB; rw [hf]; rfl
  clear hf
  go_enter Tryz.func67, Tryz.ntmps67
  go_wp2_with (first | (refine wpList_build_pl (.tmp 11) (.tmp 12) rfl pr po rfl rfl rfl ?_) | (refine wpList_lookq (.tmp 10) (.tmp 13) rfl t M N c E ⟨pr, po⟩ HC.out.2 rfl rfl (.pointer (some ⟨e.P, 0, none⟩)) HV.out HC.out.1 rfl ?_))
  go_ret
  exact ⟨by rw [HR.out]; rfl, rfl⟩
theorem wpList_del_ma {ops : Array Oper} {rest : List Oper} {o : Oper} {a : Act} {w : World} {Q : Exit → Act → World → Prop} (hg : o.guard = none) (m x : Operand) (hop : o.op = .call { callee := .builtin .delete, args := #[m, x], argTypes := #[67, 38] }) (M : Nat) (D : DataW Value) (R : List KP) (h : MA w M D R) (p : TU) (kl : Lit) (hk : keyOf Tryz.prog 38 (.agg (tuC p)) = some kl) (hm : a.eval m = .map (some M)) (hx : a.eval x = .agg (tuC p))
 (hK : ∀ w', MA w' M (D.del kl) (del R p) → Ch (fun q => q = M) w w' → (∀ r n left cnt, w.ranges Tryz.prog 38 anyE M r n D left cnt → ∃ cnt', cnt' ≤ cnt ∧ w'.ranges Tryz.prog 38 anyE M r n (D.del kl) (fun z => left z && !z.sameKey kl) cnt') → wpList Tryz.prog ops Q rest (a.put o.dst (.tuple #[])) w') : wpList Tryz.prog ops Q (o :: rest) a w := by
 refine wpList_plain hg fun K' hK' => ?_
 obtain ⟨w', hrun, h1, h2⟩ := h.mo.drop lawR Tryz.underlying67 hk o.type
 unfold Oper.wp
 simp [execOp, hop, resolve, invoke, builtin, hm, hx, hrun, Result.andThen]
 refine hK' _ _ (hK w' (h.dropped p kl hk h1) ((Ch.ofGrown h2.grown).mono (fun q _ hq => by have e : some M = some q := hq; simp at e; exact e.symm)) (fun r n left cnt hr => ?_))
 obtain ⟨w2, cnt', hrun2, r1, r2, r3⟩ := hr.drop lawR Tryz.underlying67 hk o.type
 rw [hrun] at hrun2
 simp only [Result.ok.injEq, true_and] at hrun2
 subst hrun2
 exact ⟨cnt', r2, r1⟩
theorem wpList_del_mb {ops : Array Oper} {rest : List Oper} {o : Oper} {a : Act} {w : World} {Q : Exit → Act → World → Prop} (hg : o.guard = none) (m x : Operand) (hop : o.op = .call { callee := .builtin .delete, args := #[m, x], argTypes := #[68, 102] }) (M : Nat) (D : DataW Value) (R : List KQ) (h : MB w M D R) (p : PL) (kl : Lit) (hk : keyOf Tryz.prog 102 (.agg (plC p)) = some kl) (hm : a.eval m = .map (some M)) (hx : a.eval x = .agg (plC p))
 (hK : ∀ w', MB w' M (D.del kl) (delq R p) → Ch (fun q => q = M) w w' → wpList Tryz.prog ops Q rest (a.put o.dst (.tuple #[])) w') : wpList Tryz.prog ops Q (o :: rest) a w := by
 refine wpList_plain hg fun K' hK' => ?_
 obtain ⟨w', hrun, h1, h2⟩ := h.mo.drop lawQ Tryz.underlying68 hk o.type
 unfold Oper.wp
 simp [execOp, hop, resolve, invoke, builtin, hm, hx, hrun, Result.andThen]
 exact hK' _ _ (hK w' (h.dropped p kl hk h1) ((Ch.ofGrown h2.grown).mono (fun q _ hq => by have e : some M = some q := hq; simp at e; exact e.symm)))
theorem ranges_ch {S : Nat → Prop} {A A' : World} {M r n : Nat} {D : DataW Value} {left : Lit → Bool} {cnt : Nat} (h : A.ranges Tryz.prog 38 anyE M r n D left cnt) (k : Ch S A A') (hM : ¬ S M) (hr : ¬ S r) : A'.ranges Tryz.prog 38 anyE M r n D left cnt := by
 have h1 := h.owns.lt
 have h2 := h.lt
 obtain ⟨es, clock, since, seen, c0, hb, F, hs, hD, hr', rest⟩ := h
 exact ⟨es, clock, since, seen, c0, (k.block M h1 hM).trans hb, F, hs, hD, (k.block r h2 hr).trans hr', rest⟩
theorem ranges_it {A : World} {M r n : Nat} {D : DataW Value} {left : Lit → Bool} {cnt : Nat} (h : A.ranges Tryz.prog 38 anyE M r n D left cnt) : ∃ a b c d, A.heap[r]? = some (.mapIter a b c d) := by
 obtain ⟨es, clock, since, seen, c0, hb, F, hs, hD, hr', rest⟩ := h
 exact ⟨_, _, _, _, hr'⟩
theorem yields_map {ops : Array Oper} {o : Oper} {a : Act} {S : World → Prop} (x : Operand) (ho : o.op = .load 67 x) (p : Addr) (u : Value) (hx : a.eval x = .pointer (some p)) (hw : Region.wanted o (yielded ops a.tmps) = true) (hS : ∀ w, S w → w.cell? p = some u) : YieldsIf Tryz.prog ops S o u a := by
 refine .inl ⟨hw, fun w hb => ?_⟩
 have hc := hS w hb
 have hu := Tryz.underlying67
 obtain ⟨dst, op, type, pos, after, guard⟩ := o
 simp only at ho
 subst ho
 simp only [execOp, Sem.run_bind, Sem.run_pure]
 rw [hx]
 simp [Instr.loadAt, go_sem, hc]
theorem yields_mapq {ops : Array Oper} {o : Oper} {a : Act} {S : World → Prop} (x : Operand) (ho : o.op = .load 68 x) (p : Addr) (u : Value) (hx : a.eval x = .pointer (some p)) (hw : Region.wanted o (yielded ops a.tmps) = true) (hS : ∀ w, S w → w.cell? p = some u) : YieldsIf Tryz.prog ops S o u a := by
 refine .inl ⟨hw, fun w hb => ?_⟩
 have hc := hS w hb
 have hu := Tryz.underlying68
 obtain ⟨dst, op, type, pos, after, guard⟩ := o
 simp only at ho
 subst ho
 simp only [execOp, Sem.run_bind, Sem.run_pure]
 rw [hx]
 simp [Instr.loadAt, go_sem, hc]
def RgOn (w w' : World) (M : Nat) (D : DataW Value) (kl : Lit) : Prop := ∀ r n left cnt, w.ranges Tryz.prog 38 anyE M r n D left cnt → ∃ cnt', cnt' ≤ cnt ∧ w'.ranges Tryz.prog 38 anyE M r n (D.del kl) (fun z => left z && !z.sameKey kl) cnt'
set_option maxHeartbeats 1600000 in
set_option maxRecDepth 100000 in
theorem end_any (t M N : Nat) (c : CF) (E : List FV) (w : World) (h : TA w t M N c E) (e : FV) (he : e ∈ E) (D : DataW Value) (hD : MA w M D (E.map FV.kp)) : Calls Tryz.prog 40 #[.pointer (some ⟨t, 0, none⟩), .pointer (some ⟨e.P, 0, none⟩)] w fun r w' => r = .returned (.tuple #[]) ∧ TA w' t M N c (delF E e.n.x) ∧ Ch (fun q => q = M ∨ q = N) w w' ∧ ∃ kl, keyOf Tryz.prog 38 (.agg (tuC e.n.x)) = some kl ∧ MA w' M (D.del kl) ((delF E e.n.x).map FV.kp) ∧ RgOn w w' M D kl := by
 have hff : fF E e.n.x = some e := fF_mem h.dj he (eqP_refl _)
 obtain ⟨kl, hkl⟩ := kv_key e.n.x (h.wf e he)
 have HC : Hid (TA w t M N c E ∧ e ∈ E ∧ MA w M D (E.map FV.kp) ∧ fF E e.n.x = some e ∧ keyOf Tryz.prog 38 (.agg (tuC e.n.x)) = some kl) := ⟨h, he, hD, hff, hkl⟩
 clear h he hD hff hkl
 go_enter Tryz.func40, Tryz.ntmps40
 go_upto_region 0 with fail
 refine MixH.start (fun A => TblAt A t c M N ∧ FloAt A e.P e.n) (by kernel_rfl) ?_
 obtain ⟨wA, hwA⟩ : ∃ wA, wA = w.drew := ⟨_, rfl⟩
 have bdr := zDr hwA
 have hS : TblAt wA t c M N ∧ FloAt wA e.P e.n := ⟨TblAt.below HC.out.1.cb bdr, (HC.out.1.en e HC.out.2.1).below bdr⟩
 have HA : Hid (TA wA t M N c E ∧ MA wA M D (E.map FV.kp) ∧ Below w.heap.size w wA) := ⟨HC.out.1.below bdr, HC.out.2.2.1.below bdr, bdr⟩
 rw [← hwA]
 clear hwA bdr
 refine MixH.tks [true, true, true, false, true, true, true] 3 hS (fun K hK => ?_)
 simp only [Mix.pick]
 repeat (go_big_quiet_step (fail))
 refine wpQuiet_nil (hK _ ?_)
 clear hK K
 refine MixH.tk 2 3 rfl (.map (some M)) (yields_map (.tmp 6) rfl ⟨t, 25, none⟩ (.map (some M)) rfl rfl (fun A hA => TblAt.mp hA.1)) hS (fun a' ha => ?_)
 simp only [zP1, zP2, zP3, zP4] at ha
 subst ha
 refine MixH.tk 1 7 rfl (.agg (tuC e.n.x)) (yields_tup (.tmp 10) rfl e.P 0 e.n.x rfl rfl (fun A hA => hA.2.tup)) hS (fun a' ha => ?_)
 simp only [zP1, zP2, zP3, zP4] at ha
 subst ha
 refine MixH.one [false, false, false, false, false, false, false, false, true] 0 8 _ rfl rfl (by kernel_rfl) (by kernel_rfl) (fun K hK => ?_)
 simp only [Mix.pick]
 refine wpList_del_ma rfl (.tmp 7) (.tmp 11) rfl M D (E.map FV.kp) HA.out.2.1 e.n.x kl HC.out.2.2.2.2 rfl rfl ?_
 intro w1 hM1 k1 hr1
 have H1 : Hid (MA w1 M (D.del kl) ((delF E e.n.x).map FV.kp) ∧ Ch (fun q => q = M) wA w1 ∧ RgOn wA w1 M D kl) := ⟨by rw [← del_map]; exact hM1, k1, hr1⟩
 have hS1 : TblAt w1 t c M N ∧ FloAt w1 e.P e.n := ⟨TblAt.ch hS.1 k1 HC.out.1.nt.1, hS.2.ch k1 (HC.out.1.nt.2.2 e HC.out.2.1).2.1⟩
 clear hM1 k1 hr1 hS
 have hS := hS1
 clear hS1
 go_wp2_with fail
 refine ⟨rfl, hK _ _ hS ?_⟩
 clear hK K
 refine MixH.done (by kernel_rfl) ?_
 have c1 := hS.2.c1
 have HS : Hid (TblAt w1 t c M N ∧ FloAt w1 e.P e.n) := hS
 clear hS
 have HM : Hid (Ch (fun q => q = M ∨ q = N) w w1 ∧ (∀ r n left cnt, w.ranges Tryz.prog 38 anyE M r n D left cnt → wA.ranges Tryz.prog 38 anyE M r n D left cnt)) := ⟨(Ch.ofBelow HA.out.2.2).trans (H1.out.2.1.mono (fun _ _ h => .inl h)) (fun _ _ h => h), fun r n left cnt hr => ranges_ch (S := fun _ => False) hr (Ch.ofBelow HA.out.2.2) id id⟩
 obtain ⟨b4, hb4⟩ : ∃ b, (e.n.x.sV == 4) = b := ⟨_, rfl⟩
 have HB4 : Hid (isF e = b4) := hb4
 cases b4 with
 | false =>
  go_wp2_with fail
  go_end0
  obtain ⟨D', hD'⟩ := HA.out.1.mb
  have hn := HC.out.1.mn
  refine ⟨rfl, TA.gone (A := w) HC.out.1 H1.out.1 (D' := D') ?_ HM.out.1, HM.out.1, kl, HC.out.2.2.2.2, H1.out.1, fun r n left cnt hr => H1.out.2.2 r n left cnt (HM.out.2 r n left cnt hr)⟩
  rw [del6_map HC.out.1.dj HC.out.2.2.2.1 HB4.out]
  exact hD'.ch H1.out.2.1 (fun q => hn (show N = M from q).symm)
 | true =>
  obtain ⟨D', hD'⟩ := HA.out.1.mb
  obtain ⟨kq, hkq⟩ := pl_key e.kq.p (HC.out.1.wfq e HC.out.2.1 HB4.out)
  have HQ : Hid (MB w1 N D' ((E.filter isF).map FV.kq) ∧ keyOf Tryz.prog 102 (.agg (plC e.kq.p)) = some kq) := ⟨hD'.ch H1.out.2.1 (fun q => HC.out.1.mn (show N = M from q).symm), hkq⟩
  clear hD' hkq
  go_upto_region 2 with fail
  clear c1 hb4
  refine MixH.start (fun A => TblAt A t c M N ∧ FloAt A e.P e.n) (by kernel_rfl) ?_
  obtain ⟨wB, hwB⟩ : ∃ wB, wB = w1.drew := ⟨_, rfl⟩
  have bdr := zDr hwB
  have hS : TblAt wB t c M N ∧ FloAt wB e.P e.n := ⟨TblAt.below HS.out.1 bdr, HS.out.2.below bdr⟩
  have HB : Hid (MB wB N D' ((E.filter isF).map FV.kq) ∧ Below w1.heap.size w1 wB) := ⟨HQ.out.1.below bdr, bdr⟩
  rw [← hwB]
  clear hwB bdr
  refine MixH.tks [true, true, true, false, true, true, true, true, false, true, true, true] 5 hS (fun K hK => ?_)
  simp only [Mix.pick]
  repeat (go_big_quiet_step (fail))
  refine wpQuiet_nil (hK _ ?_)
  clear hK K
  refine MixH.tk 4 3 rfl (.map (some N)) (yields_mapq (.tmp 21) rfl ⟨t, 26, none⟩ (.map (some N)) rfl rfl (fun A hA => TblAt.mq hA.1)) hS (fun a' ha => ?_)
  simp only [zP1, zP2, zP3, zP4] at ha
  subst ha
  refine MixH.tk 3 8 rfl (.int .i64 e.n.x.pr) (yields_int (.tmp 26) rfl ⟨e.P, 0, none⟩ (.int .i64 e.n.x.pr) rfl rfl (fun A hA => hA.2.c0)) hS (fun a' ha => ?_)
  simp only [zP1, zP2, zP3, zP4] at ha
  subst ha
  refine MixH.tk 2 12 rfl (.int .i64 e.n.po) (yields_int (.tmp 30) rfl ⟨e.P, 37, none⟩ (.int .i64 e.n.po) rfl rfl (fun A hA => hA.2.c37)) hS (fun a' ha => ?_)
  simp only [zP1, zP2, zP3, zP4] at ha
  subst ha
  refine MixH.tk 1 13 rfl (.agg (plC e.kq.p)) (yields_buildpl (.tmp 27) (.tmp 31) rfl e.n.x.pr e.n.po rfl rfl rfl) hS (fun a' ha => ?_)
  simp only [zP1, zP2, zP3, zP4] at ha
  subst ha
  refine MixH.one [false, false, false, false, false, false, false, false, false, false, false, false, false, false, true] 0 14 _ rfl rfl (by kernel_rfl) (by kernel_rfl) (fun K hK => ?_)
  simp only [Mix.pick]
  refine wpList_del_mb rfl (.tmp 22) (.tmp 32) rfl N D' ((E.filter isF).map FV.kq) HB.out.1 e.kq.p kq HQ.out.2 rfl rfl ?_
  intro w2 hM2 k2
  have H2 : Hid (MB w2 N (D'.del kq) (((delF E e.n.x).filter isF).map FV.kq) ∧ Ch (fun q => q = N) wB w2) := ⟨by rw [← delq_map HC.out.1.djq HC.out.1.dj HC.out.2.2.2.1 HB4.out]; exact hM2, k2⟩
  have hS1 : TblAt w2 t c M N ∧ FloAt w2 e.P e.n := ⟨TblAt.ch hS.1 k2 HC.out.1.nt.2.1, hS.2.ch k2 (HC.out.1.nt.2.2 e HC.out.2.1).2.2⟩
  clear hM2 k2 hS
  have hS := hS1
  clear hS1
  go_wp2_with fail
  refine ⟨rfl, hK _ _ hS ?_⟩
  clear hK K
  refine MixH.done (by kernel_rfl) ?_
  clear hS
  go_wp2_with fail
  go_end0
  have k3 : Ch (fun q => q = N) w1 w2 := (Ch.ofBelow HB.out.2).trans H2.out.2 (fun _ _ h => h)
  have k4 : Ch (fun q => q = M ∨ q = N) w w2 := HM.out.1.trans k3 (fun _ _ h => .inr h)
  have hMA : MA w2 M (D.del kl) ((delF E e.n.x).map FV.kp) := H1.out.1.ch k3 HC.out.1.mn
  refine ⟨rfl, TA.gone (A := w) HC.out.1 hMA H2.out.1 k4, k4, kl, HC.out.2.2.2.2, hMA, fun r n left cnt hr => ?_⟩
  obtain ⟨cnt', hc', hr'⟩ := H1.out.2.2 r n left cnt (HM.out.2 r n left cnt hr)
  refine ⟨cnt', hc', ranges_ch hr' k3 HC.out.1.mn (fun q => ?_)⟩
  obtain ⟨a1, a2, a3, a4, hi⟩ := ranges_it hr'
  obtain ⟨es, ck, hn⟩ := HQ.out.1.blk
  have q' : r = N := q
  rw [q', hn] at hi
  cases hi
def FV.turn (c : CF) (e : FV) (st : Int) : FV := ⟨{ e.n with st := st, le := tkN c e.n.x.pr st }, e.P⟩
def turnE (c : CF) (E : List FV) (e : FV) (st : Int) : List FV := if st == -1 then delF E e.n.x else updF E e.n.x (e.turn c st)
set_option maxHeartbeats 1600000 in
set_option maxRecDepth 100000 in
theorem turn_any (t M N : Nat) (c : CF) (E : List FV) (w : World) (h : TA w t M N c E) (e : FV) (he : e ∈ E) (st : Int) : Calls Tryz.prog 29 #[.pointer (some ⟨t, 0, none⟩), .pointer (some ⟨e.P, 0, none⟩), .int .i64 st] w fun r w' => r = .returned (.tuple #[]) ∧ TA w' t M N c (turnE c E e st) ∧ Ch (TB t M N E) w w' ∧ (∃ f : FN, FloAt w' e.P f ∧ f.x = e.n.x ∧ f.po = e.n.po) := by
 have hff : fF E e.n.x = some e := fF_mem h.dj he (eqP_refl _)
 have HC : Hid (TA w t M N c E ∧ e ∈ E ∧ fF E e.n.x = some e) := ⟨h, he, hff⟩
 clear h he hff
 obtain ⟨b, hb⟩ : ∃ b, (st == -1) = b := ⟨_, rfl⟩
 have HB : Hid ((st == -1) = b) := hb
 go_enter Tryz.func29, Tryz.ntmps29
 cases b with
 | true =>
  obtain ⟨D, hD⟩ := HC.out.1.ma
  have QE : Hid _ := end_any t M N c E w HC.out.1 e HC.out.2.1 D hD
  clear hD
  go_wp2_with fail
  refine Calls.mono QE.out ?_
  rintro r w1 ⟨rfl, h1, k1, kl, hkl, _, _⟩
  have hF := (HC.out.1.en e HC.out.2.1).ch k1 (fun q => q.elim (HC.out.1.nt.2.2 e HC.out.2.1).2.1 (HC.out.1.nt.2.2 e HC.out.2.1).2.2)
  have H1 : Hid (TA w1 t M N c (turnE c E e st) ∧ Ch (TB t M N E) w w1 ∧ FloAt w1 e.P e.n) := ⟨by unfold turnE; rw [HB.out]; exact h1, k1.mono (fun q _ hq => hq.elim (fun h => .inr (.inl h)) (fun h => .inr (.inr (.inl h)))), hF⟩
  clear h1 k1 hkl hF QE
  go_wp2_with fail
  refine bodyPost_ret (results_none rfl _ _ _) rfl ?_
  exact ⟨rfl, H1.out.1, H1.out.2.1, e.n, H1.out.2.2, rfl, rfl⟩
 | false =>
  go_upto_region 2 with fail
  clear hb
  refine MixH.start (fun A => TblAt A t c M N ∧ ∃ f : FN, FloAt A e.P f ∧ f.x = e.n.x) (by kernel_rfl) ?_
  obtain ⟨wA, hwA⟩ : ∃ wA, wA = w.drew := ⟨_, rfl⟩
  have bdr := zDr hwA
  have hS : TblAt wA t c M N ∧ ∃ f : FN, FloAt wA e.P f ∧ f.x = e.n.x := ⟨TblAt.below HC.out.1.cb bdr, e.n, (HC.out.1.en e HC.out.2.1).below bdr, rfl⟩
  have HA : Hid (TA wA t M N c E ∧ Below w.heap.size w wA) := ⟨HC.out.1.below bdr, bdr⟩
  have QT : Hid _ := ticks_any c e.n.x.pr st wA
  obtain ⟨tk, htk⟩ : ∃ tk, tkN c e.n.x.pr st = tk := ⟨_, rfl⟩
  rw [htk] at QT
  have HTK : Hid (tkN c e.n.x.pr st = tk) := htk
  rw [← hwA]
  clear hwA bdr htk
  refine MixH.tks [true, true, true, true, true, true, false, true, true, true, true, false, true] 9 hS (fun K hK => ?_)
  simp only [Mix.pick]
  repeat (go_big_quiet_step (fail))
  refine wpQuiet_nil (hK _ ?_)
  clear hK K
  refine MixH.tk 8 6 rfl (.agg (cfC c)) (yields_cfg (.tmp 16) rfl t 0 c rfl rfl (fun A hA => TblAt.cf hA.1)) hS (fun a' ha => ?_)
  simp only [zP1, zP2, zP3, zP4] at ha
  subst ha
  refine MixH.tk 7 11 rfl (.int .i64 e.n.x.pr) (yields_int (.tmp 21) rfl ⟨e.P, 0, none⟩ (.int .i64 e.n.x.pr) rfl rfl (fun A hA => by obtain ⟨f, h1, h2⟩ := hA.2; rw [← h2]; exact h1.c0)) hS (fun a' ha => ?_)
  simp only [zP1, zP2, zP3, zP4] at ha
  subst ha
  refine MixH.one [false, false, false, false, false, false, false, false, false, false, false, false, false, true] 6 13 _ rfl rfl (by kernel_rfl) (by kernel_rfl) (fun K hK => ?_)
  simp only [Mix.pick]
  go_wp2_with fail
  refine Calls.mono QT.out ?_
  rintro e1 w1 ⟨rfl, b1⟩
  have H1 : Hid (TA w1 t M N c E ∧ Below w.heap.size w w1) := ⟨HA.out.1.below b1, bthen HA.out.2 b1⟩
  clear hS b1 QT
  have hS : TblAt w1 t c M N ∧ ∃ f : FN, FloAt w1 e.P f ∧ f.x = e.n.x := ⟨H1.out.1.cb, e.n, H1.out.1.en e HC.out.2.1, rfl⟩
  have c38 := (H1.out.1.en e HC.out.2.1).c38
  have f38 := (H1.out.1.en e HC.out.2.1).fz 38
  have c39 := (H1.out.1.en e HC.out.2.1).c39
  have f39 := (H1.out.1.en e HC.out.2.1).fz 39
  go_wp2_with fail
  refine ⟨rfl, hK _ _ hS ?_⟩
  clear hK K
  refine MixH.tks [false, false, false, false, false, false, false, false, false, false, false, false, false, false, true, true] 4 hS (fun K hK => ?_)
  simp only [Mix.pick]
  repeat (go_big_quiet_step (fail))
  refine wpQuiet_nil (hK _ ?_)
  clear hK K
  refine MixH.one [false, false, false, false, false, false, false, false, false, false, false, false, false, false, false, false, true] 3 16 _ rfl rfl (by kernel_rfl) (by kernel_rfl) (fun K hK => ?_)
  simp only [Mix.pick]
  go_wp2_with fail
  have hP := (HC.out.1.nt.2.2 e HC.out.2.1).1
  have k2 := (Ch.refl (fun q => q = e.P) w1).set ⟨e.P, 38, none⟩ (.int .i64 st) rfl
  have hS2 : TblAt (w1.setCell ⟨e.P, 38, none⟩ (.int .i64 st)) t c M N ∧ ∃ f : FN, FloAt (w1.setCell ⟨e.P, 38, none⟩ (.int .i64 st)) e.P f ∧ f.x = e.n.x := ⟨TblAt.ch hS.1 k2 (fun q => hP (show t = e.P from q).symm), _, FloAt.set (H1.out.1.en e HC.out.2.1) 38 (.int .i64 st) (set_st _ _), rfl⟩
  clear hS k2 hP
  have hS := hS2
  clear hS2
  refine ⟨rfl, hK _ _ hS ?_⟩
  clear hK K
  refine MixH.tks [false, false, false, false, false, false, false, false, false, false, false, false, false, false, false, false, false, true, true] 1 hS (fun K hK => ?_)
  simp only [Mix.pick]
  repeat (go_big_quiet_step (fail))
  refine wpQuiet_nil (hK _ ?_)
  clear hK K
  refine MixH.one [false, false, false, false, false, false, false, false, false, false, false, false, false, false, false, false, false, false, false, true] 0 19 _ rfl rfl (by kernel_rfl) (by kernel_rfl) (fun K hK => ?_)
  simp only [Mix.pick]
  go_wp2_with fail
  have hP := (HC.out.1.nt.2.2 e HC.out.2.1).1
  have k2 := ((Ch.refl (fun q => q = e.P) w1).set ⟨e.P, 38, none⟩ (.int .i64 st) rfl).set ⟨e.P, 39, none⟩ (.int .i64 tk) rfl
  have hS2 : TblAt ((w1.setCell ⟨e.P, 38, none⟩ (.int .i64 st)).setCell ⟨e.P, 39, none⟩ (.int .i64 tk)) t c M N ∧ ∃ f : FN, FloAt ((w1.setCell ⟨e.P, 38, none⟩ (.int .i64 st)).setCell ⟨e.P, 39, none⟩ (.int .i64 tk)) e.P f ∧ f.x = e.n.x := ⟨TblAt.ch H1.out.1.cb k2 (fun q => hP (show t = e.P from q).symm), _, FloAt.set (FloAt.set (H1.out.1.en e HC.out.2.1) 38 (.int .i64 st) (set_st _ _)) 39 (.int .i64 tk) (set_le _ _), rfl⟩
  clear hS k2 hP
  have hS := hS2
  clear hS2
  refine ⟨rfl, hK _ _ hS ?_⟩
  clear hK K
  refine MixH.done (by kernel_rfl) ?_
  clear hS
  go_wp2_with fail
  go_end0
  have k2 := ((Ch.refl (fun q => q = e.P) w1).set ⟨e.P, 38, none⟩ (.int .i64 st) rfl).set ⟨e.P, 39, none⟩ (.int .i64 tk) rfl
  have hF := FloAt.set (FloAt.set (H1.out.1.en e HC.out.2.1) 38 (.int .i64 st) (set_st _ _)) 39 (.int .i64 tk) (set_le _ _)
  have hF' : FloAt ((w1.setCell ⟨e.P, 38, none⟩ (.int .i64 st)).setCell ⟨e.P, 39, none⟩ (.int .i64 tk)) (e.turn c st).P (e.turn c st).n := by
   show FloAt _ e.P { e.n with st := st, le := tkN c e.n.x.pr st }
   rw [HTK.out]
   exact hF
  refine ⟨rfl, ?_, (Ch.ofBelow H1.out.2).trans k2 (fun q _ hq => .inr (.inr (.inr ⟨e, HC.out.2.1, hq⟩))), _, hF, rfl, rfl⟩
  unfold turnE
  rw [HB.out]
  exact TA.turned (A := w1) (e := e) (e' := e.turn c st) H1.out.1 HC.out.2.2 rfl rfl rfl k2 hF'
end Go.Proofs.YtclpeepnngegaaaGreatDoor
