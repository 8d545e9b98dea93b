/-
  Layer 18: the book behind a Pop; the book held against the queue.
-/
import Derived.Test.YtclkcpdghpaboaaQB3
namespace Go.Proofs.Ytclkcpdghpaboaa
open Go.RowKit Go.ChangeShapes Go.WideShapes

set_option maxRecDepth 100000 in
theorem yields_sl1 {ops : Array Oper} {o : Oper} {a : Act} {S : World → Prop} (x : Operand) (ho : o.op = .slice 37 x (some (.const (.int .i64 1))) none none) (g off n c : Nat) (v : Value) (hv : sliced (some ⟨g, off, none⟩) 1 n c 2 = v) (hx : a.eval x = .slice (some ⟨g, off, none⟩) n c) (hn : 1 ≤ n) (hw : Region.wanted o (yielded ops a.tmps) = true) : YieldsIf Try.prog ops S o v a := by
  refine .inl ⟨hw, fun w _ => ?_⟩
  obtain ⟨dst, op, type, pos, after, guard⟩ := o
  simp only at ho
  subst ho
  have h1 : (1 : Int) ≤ (n : Int) := by omega
  have hs : (Try.prog.info? 56).map (·.size) = some 2 := info_bi.size
  have hrun : (Instr.slice 37 (.slice (some ⟨g, off, none⟩) n c) (some (.int .i64 1)) none none).run Try.prog w = .ok v w := by
    rw [run_slice_l w 37 (some ⟨g, off, none⟩) n c Try.underlying37 .i64 1 (by decide) h1, ← hv]
    kernel_rfl
  have hc1 : a.eval (.const (.int .i64 1)) = .int .i64 1 := rfl
  simp only [execOp, Sem.run_bind, hx, hc1, Option.map_some, Option.map_none, run_sliceAt_slice w 37 _ _ _ _ Try.underlying37, hrun, Result.andThen_ok]
  rfl
theorem set_get {ms : List BM} {i : Nat} {m : BM} (h : ms[i]? = some m) (x : BM) : (ms.set i x)[i]? = some x := List.getElem?_set_self (List.getElem?_eq_some_iff.1 h).1
set_option maxHeartbeats 6400000 in
set_option maxRecDepth 100000 in
theorem popped_any (N B : Nat) (lv bv sv : Value) (ms : List BM) (w : World) (hk : BK N w B lv bv sv ms) (i : Nat) (m : BM) (x : Int × Int) (M' : List (Int × Int)) (hm : ms[i]? = some m) (hM : m.M = x :: M') (hb : -1000000000000 ≤ m.b ∧ m.b ≤ 1000000000000) (hx : 1 ≤ x.2 ∧ x.2 ≤ 65535) (hs : 0 ≤ m.s ∧ m.s ≤ 900000000000000000) : Calls Try.prog 21 #[.pointer (some ⟨B, 0, none⟩), .int .i64 x.1, .int .i64 (i : Nat)] w fun r w' => r = .returned (.bool true) ∧ ∃ m', BK N w' B lv bv sv (ms.set i m') ∧ m'.M = M' ∧ m'.b = m.b - x.2 ∧ m'.s = m.s + x.2 ∧ Ch (BB B lv bv sv ms) w w' := by
  have hil := (List.getElem?_eq_some_iff.1 hm).1
  obtain ⟨n, hn⟩ : ∃ n, ms.length = n := ⟨_, rfl⟩
  rw [hn] at hil
  obtain ⟨gl, cl, hlv, _, _, _⟩ := hk.l.at bmV_len i m hm
  obtain ⟨gb, cb, hbv, _, _, _⟩ := hk.by'.at bmB_len i m hm
  obtain ⟨gs, cs', hsv, _, _, _⟩ := hk.s.at bmS_len i m hm
  rw [hn] at hlv hbv hsv
  subst hlv hbv hsv
  obtain ⟨x1, x2⟩ := x
  have hln := hk.ln m (List.mem_of_getElem? hm)
  rw [hM] at hln
  obtain ⟨g, off, c, hv, hc, hx2, hx1⟩ := hln.head
  obtain ⟨ml, hml⟩ : ∃ ml, M'.length + 1 = ml := ⟨_, rfl⟩
  rw [hml] at hv hc
  rw [hv] at hln
  obtain ⟨a4, c4, h4⟩ := hln.tail.form
  have hl4 := hln.tail
  rw [h4] at hl4
  obtain ⟨mk, hmk⟩ : ∃ mk, M'.length = mk := ⟨_, rfl⟩
  rw [hmk] at h4 hl4
  have ho4 : (Value.slice a4 mk c4).ownBlock = some g := by rw [← h4]; exact sliced_own g off ml c
  obtain ⟨mb, hmb⟩ : ∃ z, m.b = z := ⟨_, rfl⟩
  obtain ⟨msv, hms⟩ : ∃ z, m.s = z := ⟨_, rfl⟩
  rw [hmb] at hb
  rw [hms] at hs
  have HK : Hid (BK N w B (.slice (some ⟨gl, 0, none⟩) n cl) (.slice (some ⟨gb, 0, none⟩) n cb) (.slice (some ⟨gs, 0, none⟩) n cs') ms) := hk
  have HM : Hid (ms[i]? = some m ∧ m.v = .slice (some ⟨g, off, none⟩) ml c ∧ m.b = mb ∧ m.s = msv ∧ m.M = (x1, x2) :: M' ∧ M'.length = mk ∧ M'.length + 1 = ml) := ⟨hm, hv, hmb, hms, hM, hmk, hml⟩
  have H4 : Hid (sliced (some ⟨g, off, none⟩) 1 ml c 2 = .slice a4 mk c4 ∧ (Value.slice a4 mk c4).ownBlock = some g ∧ 1 ≤ ml ∧ Ln N w (.slice a4 mk c4) M') := ⟨h4, ho4, by omega, hl4⟩
  have HI : Hid (i < n ∧ ms.length = n) := ⟨hil, hn⟩
  have c0 : w.cell? ⟨B, 0, none⟩ = some (.slice (some ⟨gl, 0, none⟩) n cl) := hk.at'.cell 0
  have cv : w.cell? ⟨gl, i, none⟩ = some (.slice (some ⟨g, off, none⟩) ml c) := hk.l.cell1 bmV_len hm (by unfold bmV; rw [hv])
  have cx2 : w.cell? ⟨g, off, none⟩ = some (.int .i64 x2) := hx2
  have cx1 : w.cell? ⟨g, off + 1, none⟩ = some (.int .i64 x1) := hx1
  have q1 : decide ((i : Int) < 0) = false := decide_eq_false (by omega)
  have q2 : decide ((n : Int) ≤ (i : Int)) = false := decide_eq_false (by omega)
  have q3 : decide (n ≤ i) = false := decide_eq_false (by omega)
  have k0 : (0 : Int) ≤ (i : Int) := by omega
  have k1 : (i : Int) < (n : Int) := by omega
  have k2 : ((i : Int)).toNat = i := by omega
  have q4 : ((ml : Int) == 0) = false := beq_eq_false_iff_ne.2 (by omega)
  have q4' : (ml == 0) = false := beq_eq_false_iff_ne.2 (by omega)
  have q5 : (0 : Int) < (ml : Int) := by omega
  have q6 : (x1 != x1) = false := by simp
  have wb : IntKind.i64.wrap (mb - x2) = mb - x2 := i64_s _ (by have h1 : 1 ≤ x2 ∧ x2 ≤ 65535 := hx; omega) (by have h1 : 1 ≤ x2 ∧ x2 ≤ 65535 := hx; omega)
  have ws : IntKind.i64.wrap (msv + x2) = msv + x2 := i64_s _ (by have h1 : 1 ≤ x2 ∧ x2 ≤ 65535 := hx; omega) (by have h1 : 1 ≤ x2 ∧ x2 ≤ 65535 := hx; omega)
  clear hil hn hln hc hx1 hx2 hml h4 hl4 hmk ho4 hmb hms hk hm hM hv hb hx hs
  go_enter Try.func21, Try.ntmps21
  go_upto_region 4 with fail
  refine MixH.start (fun A => BovAt A B (.slice (some ⟨gl, 0, none⟩) n cl) (.slice (some ⟨gb, 0, none⟩) n cb) (.slice (some ⟨gs, 0, none⟩) n cs')) (by kernel_rfl) ?_
  obtain ⟨wA, hwA⟩ : ∃ W_, W_ = w.drew := ⟨_, rfl⟩
  have bdr : Below w.heap.size w wA := by rw [hwA]; exact (Below.refl _ _).drew
  have hS : BovAt wA B (.slice (some ⟨gl, 0, none⟩) n cl) (.slice (some ⟨gb, 0, none⟩) n cb) (.slice (some ⟨gs, 0, none⟩) n cs') := HK.out.at'.below bdr
  have HA : Hid (BK N wA B (.slice (some ⟨gl, 0, none⟩) n cl) (.slice (some ⟨gb, 0, none⟩) n cb) (.slice (some ⟨gs, 0, none⟩) n cs') ms ∧ Ln N wA (.slice a4 mk c4) M' ∧ Below w.heap.size w wA) := ⟨HK.out.below bdr, H4.out.2.2.2.below bdr, bdr⟩
  rw [← hwA]
  clear hwA bdr
  clear c0 cv cx1 cx2
  refine MixH.takes [true, true, true, false, true, true, true, true, false, true] 7 (by kernel_rfl) (by kernel_rfl) (by decide) (by kernel_rfl) hS (fun K hK => ?_)
  simp only [Mix.pick]
  repeat (go_big_quiet_step (fail))
  refine wpQuiet_nil (hK _ ?_)
  clear hK K
  refine MixH.take 6 3 _ (.slice (some ⟨gl, 0, none⟩) n cl) rfl (by kernel_rfl) (by kernel_rfl) (by kernel_rfl) (by kernel_rfl) (yields_bks (.tmp 56) rfl ⟨B, 0, none⟩ (.slice (some ⟨gl, 0, none⟩) n cl) rfl rfl (fun A hA => hA.cell 0)) hS (fun a' ha => ?_)
  simp only [Act.put, List.setIfInBounds_toArray, List.set_cons_succ, List.set_cons_zero] at ha
  subst ha
  refine MixH.take 5 8 _ (.slice (some ⟨gl, 0, none⟩) n cl) rfl (by kernel_rfl) (by kernel_rfl) (by kernel_rfl) (by kernel_rfl) (yields_bks (.tmp 61) rfl ⟨B, 0, none⟩ (.slice (some ⟨gl, 0, none⟩) n cl) rfl rfl (fun A hA => hA.cell 0)) hS (fun a' ha => ?_)
  simp only [Act.put, List.setIfInBounds_toArray, List.set_cons_succ, List.set_cons_zero] at ha
  subst ha
  refine MixH.takes [false, false, false, false, false, false, false, false, false, false, true] 4 (by kernel_rfl) (by kernel_rfl) (by decide) (by kernel_rfl) hS (fun K hK => ?_)
  simp only [Mix.pick]
  repeat (go_big_quiet_step (fail))
  refine wpQuiet_nil (hK _ ?_)
  clear hK K
  refine MixH.one [false, false, false, false, false, false, false, false, false, false, false, true] 3 11 _ rfl rfl (by kernel_rfl) (by kernel_rfl) (fun K hK => ?_)
  simp only [Mix.pick]
  have cL : wA.cell? ⟨gl, i, none⟩ = some (.slice (some ⟨g, off, none⟩) ml c) := HA.out.1.l.cell1 bmV_len HM.out.1 (by unfold bmV; rw [HM.out.2.1])
  go_wp2_with fail
  clear cL
  refine ⟨rfl, hK _ _ hS ?_⟩
  clear hK K
  refine MixH.take 2 12 _ (.slice a4 mk c4) rfl (by kernel_rfl) (by kernel_rfl) (by kernel_rfl) (by kernel_rfl) (yields_sl1 (.tmp 65) rfl g off ml c (.slice a4 mk c4) H4.out.1 rfl H4.out.2.2.1 rfl) hS (fun a' ha => ?_)
  simp only [Act.put, List.setIfInBounds_toArray, List.set_cons_succ, List.set_cons_zero] at ha
  subst ha
  refine MixH.takes [false, false, false, false, false, false, false, false, false, false, false, false, false, true] 1 (by kernel_rfl) (by kernel_rfl) (by decide) (by kernel_rfl) hS (fun K hK => ?_)
  simp only [Mix.pick]
  repeat (go_big_quiet_step (fail))
  refine wpQuiet_nil (hK _ ?_)
  clear hK K
  refine MixH.one [false, false, false, false, false, false, false, false, false, false, false, false, false, false, true] 0 14 _ rfl rfl (by kernel_rfl) (by kernel_rfl) (fun K hK => ?_)
  simp only [Mix.pick]
  have cL : wA.cell? ⟨gl, i, none⟩ = some (.slice (some ⟨g, off, none⟩) ml c) := HA.out.1.l.cell1 bmV_len HM.out.1 (by unfold bmV; rw [HM.out.2.1])
  have zL := HA.out.1.l.frozen i
  have kk : Ch (fun q => q = gl) wA (wA.setCell ⟨gl, i, none⟩ (.slice a4 mk c4)) := (Ch.refl (fun q => q = gl) wA).set ⟨gl, i, none⟩ _ rfl
  have hgk : ∀ q c ty, wA.heap[q]? = some (.cells c ty (0, 0)) → ty ≠ 37 → ¬ q = gl := fun q c ty hc hne e => by
    subst e
    obtain ⟨_, _, c', hc'⟩ := HA.out.1.l.kind q rfl
    exact tk_ne hc hc' hne
  have HB : Hid (BK N (wA.setCell ⟨gl, i, none⟩ (.slice a4 mk c4)) B (.slice (some ⟨gl, 0, none⟩) n cl) (.slice (some ⟨gb, 0, none⟩) n cb) (.slice (some ⟨gs, 0, none⟩) n cs') (ms.set i ⟨a4, c4, M', mb, msv⟩) ∧ Ch (BB B (.slice (some ⟨gl, 0, none⟩) n cl) (.slice (some ⟨gb, 0, none⟩) n cb) (.slice (some ⟨gs, 0, none⟩) n cs') ms) w (wA.setCell ⟨gl, i, none⟩ (.slice a4 mk c4))) := by
    have hv : BM.v ⟨a4, c4, M', mb, msv⟩ = .slice a4 mk c4 := by unfold BM.v; simp only [HM.out.2.2.2.2.2.1]
    have g1 := HA.out.1.l.set1 bmV_len (i := i) (m' := ⟨a4, c4, M', mb, msv⟩) (u := .slice a4 mk c4) (by unfold bmV; rw [hv]) (List.getElem?_eq_some_iff.1 HM.out.1).1
    have hn5 : Ln N (wA.setCell ⟨gl, i, none⟩ (.slice a4 mk c4)) (BM.v ⟨a4, c4, M', mb, msv⟩) M' := by
      rw [hv]
      refine HA.out.2.1.ch kk (fun q hq e => ?_)
      obtain ⟨_, _, c, hc⟩ := HA.out.2.1.kind hq
      exact hgk q _ _ hc (by decide) e
    refine ⟨HA.out.1.putL HM.out.1 (m' := ⟨a4, c4, M', mb, msv⟩) (kk.mono (fun q _ e => .inl (by have e' : q = gl := e; rw [e']; rfl))) g1 hn5 HM.out.2.2.1.symm HM.out.2.2.2.1.symm (fun q hq => .inl ?_), (Ch.ofBelow HA.out.2.2).trans kk (fun q _ e => .inr (.inl (by have e' : q = gl := e; rw [e']; rfl)))⟩
    rw [hv, H4.out.2.1] at hq
    rw [HM.out.2.1, ← hq]
    rfl
  replace hS : BovAt (wA.setCell ⟨gl, i, none⟩ (.slice a4 mk c4)) B (.slice (some ⟨gl, 0, none⟩) n cl) (.slice (some ⟨gb, 0, none⟩) n cb) (.slice (some ⟨gs, 0, none⟩) n cs') := hS.ch kk (hgk _ _ _ hS (by decide))
  clear kk hgk
  go_wp2_with fail
  refine ⟨rfl, hK _ _ hS ?_⟩
  clear hK K
  refine MixH.done (by kernel_rfl) ?_
  clear hS
  obtain ⟨wB, hwB⟩ : ∃ y, wA.setCell ⟨gl, i, none⟩ (.slice a4 mk c4) = y := ⟨_, rfl⟩
  rw [hwB] at HB ⊢
  clear hwB
  go_upto_region 5 with fail
  refine MixH.start (fun A => BovAt A B (.slice (some ⟨gl, 0, none⟩) n cl) (.slice (some ⟨gb, 0, none⟩) n cb) (.slice (some ⟨gs, 0, none⟩) n cs')) (by kernel_rfl) ?_
  obtain ⟨wC, hwA⟩ : ∃ W_, W_ = wB.drew := ⟨_, rfl⟩
  have bdr : Below wB.heap.size wB wC := by rw [hwA]; exact (Below.refl _ _).drew
  have hS : BovAt wC B (.slice (some ⟨gl, 0, none⟩) n cl) (.slice (some ⟨gb, 0, none⟩) n cb) (.slice (some ⟨gs, 0, none⟩) n cs') := HB.out.1.at'.below bdr
  have HwC : Hid (BK N wC B (.slice (some ⟨gl, 0, none⟩) n cl) (.slice (some ⟨gb, 0, none⟩) n cb) (.slice (some ⟨gs, 0, none⟩) n cs') (ms.set i ⟨a4, c4, M', mb, msv⟩) ∧ Ch (BB B (.slice (some ⟨gl, 0, none⟩) n cl) (.slice (some ⟨gb, 0, none⟩) n cb) (.slice (some ⟨gs, 0, none⟩) n cs') ms) w wC) := ⟨HB.out.1.below bdr, HB.out.2.trans (Ch.ofBelow (S := fun _ => False) bdr) (fun _ _ e => e.elim)⟩
  rw [← hwA]
  clear hwA bdr
  refine MixH.takes [true, true, true, false, true, true, true, true, false, true, false, false, true] 7 (by kernel_rfl) (by kernel_rfl) (by decide) (by kernel_rfl) hS (fun K hK => ?_)
  simp only [Mix.pick]
  repeat (go_big_quiet_step (fail))
  refine wpQuiet_nil (hK _ ?_)
  clear hK K
  refine MixH.take 6 3 _ (.slice (some ⟨gb, 0, none⟩) n cb) rfl (by kernel_rfl) (by kernel_rfl) (by kernel_rfl) (by kernel_rfl) (yields_bkn (.tmp 70) rfl ⟨B, 1, none⟩ (.slice (some ⟨gb, 0, none⟩) n cb) rfl rfl (fun A hA => hA.cell 1)) hS (fun a' ha => ?_)
  simp only [Act.put, List.setIfInBounds_toArray, List.set_cons_succ, List.set_cons_zero] at ha
  subst ha
  refine MixH.take 5 8 _ (.slice (some ⟨gb, 0, none⟩) n cb) rfl (by kernel_rfl) (by kernel_rfl) (by kernel_rfl) (by kernel_rfl) (yields_bkn (.tmp 75) rfl ⟨B, 1, none⟩ (.slice (some ⟨gb, 0, none⟩) n cb) rfl rfl (fun A hA => hA.cell 1)) hS (fun a' ha => ?_)
  simp only [Act.put, List.setIfInBounds_toArray, List.set_cons_succ, List.set_cons_zero] at ha
  subst ha
  refine MixH.takes [false, false, false, false, false, false, false, false, false, false, true] 4 (by kernel_rfl) (by kernel_rfl) (by decide) (by kernel_rfl) hS (fun K hK => ?_)
  simp only [Mix.pick]
  repeat (go_big_quiet_step (fail))
  refine wpQuiet_nil (hK _ ?_)
  clear hK K
  refine MixH.one [false, false, false, false, false, false, false, false, false, false, false, true] 3 11 _ rfl rfl (by kernel_rfl) (by kernel_rfl) (fun K hK => ?_)
  simp only [Mix.pick]
  have cL : wC.cell? ⟨gb, i, none⟩ = some (.int .i64 mb) := HwC.out.1.by'.cell1 bmB_len (set_get HM.out.1 _) (by unfold bmB; rfl)
  go_wp2_with fail
  clear cL
  refine ⟨rfl, hK _ _ hS ?_⟩
  clear hK K
  refine MixH.takes [false, false, false, false, false, false, false, false, false, false, false, false, false, true, true] 1 (by kernel_rfl) (by kernel_rfl) (by decide) (by kernel_rfl) hS (fun K hK => ?_)
  simp only [Mix.pick]
  repeat (go_big_quiet_step (fail))
  refine wpQuiet_nil (hK _ ?_)
  clear hK K
  refine MixH.one [false, false, false, false, false, false, false, false, false, false, false, false, false, false, false, true] 0 15 _ rfl rfl (by kernel_rfl) (by kernel_rfl) (fun K hK => ?_)
  simp only [Mix.pick]
  have cL : wC.cell? ⟨gb, i, none⟩ = some (.int .i64 mb) := HwC.out.1.by'.cell1 bmB_len (set_get HM.out.1 _) (by unfold bmB; rfl)
  have zL := HwC.out.1.by'.frozen i
  have kk : Ch (fun q => q = gb) wC (wC.setCell ⟨gb, i, none⟩ (.int .i64 (mb - x2))) := (Ch.refl (fun q => q = gb) wC).set ⟨gb, i, none⟩ _ rfl
  have hgk : ∀ q c ty, wC.heap[q]? = some (.cells c ty (0, 0)) → ty ≠ 3 → ¬ q = gb := fun q c ty hc hne e => by
    subst e
    obtain ⟨_, _, c', hc'⟩ := HwC.out.1.by'.kind q rfl
    exact tk_ne hc hc' hne
  have HwD : Hid (BK N (wC.setCell ⟨gb, i, none⟩ (.int .i64 (mb - x2))) B (.slice (some ⟨gl, 0, none⟩) n cl) (.slice (some ⟨gb, 0, none⟩) n cb) (.slice (some ⟨gs, 0, none⟩) n cs') (ms.set i ⟨a4, c4, M', mb - x2, msv⟩) ∧ Ch (BB B (.slice (some ⟨gl, 0, none⟩) n cl) (.slice (some ⟨gb, 0, none⟩) n cb) (.slice (some ⟨gs, 0, none⟩) n cs') ms) w (wC.setCell ⟨gb, i, none⟩ (.int .i64 (mb - x2)))) := by
    have g1 := HwC.out.1.by'.set1 bmB_len (i := i) (m' := ⟨a4, c4, M', mb - x2, msv⟩) (u := .int .i64 (mb - x2)) rfl (List.getElem?_eq_some_iff.1 (set_get HM.out.1 _)).1
    have h1 := HwC.out.1.putB (set_get HM.out.1 _) (m' := ⟨a4, c4, M', mb - x2, msv⟩) (kk.mono (fun q _ e => by have e' : q = gb := e; rw [e']; rfl)) g1 rfl rfl rfl
    rw [List.set_set] at h1
    exact ⟨h1, HwC.out.2.trans kk (fun q _ e => .inr (.inr (.inl (by have e' : q = gb := e; rw [e']; rfl))))⟩
  replace hS : BovAt (wC.setCell ⟨gb, i, none⟩ (.int .i64 (mb - x2))) B (.slice (some ⟨gl, 0, none⟩) n cl) (.slice (some ⟨gb, 0, none⟩) n cb) (.slice (some ⟨gs, 0, none⟩) n cs') := hS.ch kk (hgk _ _ _ hS (by decide))
  clear kk hgk
  go_wp2_with fail
  refine ⟨rfl, hK _ _ hS ?_⟩
  clear hK K
  refine MixH.done (by kernel_rfl) ?_
  clear hS
  obtain ⟨wD, hwD⟩ : ∃ y, wC.setCell ⟨gb, i, none⟩ (.int .i64 (mb - x2)) = y := ⟨_, rfl⟩
  rw [hwD] at HwD ⊢
  clear hwD
  go_upto_region 6 with fail
  refine MixH.start (fun A => BovAt A B (.slice (some ⟨gl, 0, none⟩) n cl) (.slice (some ⟨gb, 0, none⟩) n cb) (.slice (some ⟨gs, 0, none⟩) n cs')) (by kernel_rfl) ?_
  obtain ⟨wE, hwA⟩ : ∃ W_, W_ = wD.drew := ⟨_, rfl⟩
  have bdr : Below wD.heap.size wD wE := by rw [hwA]; exact (Below.refl _ _).drew
  have hS : BovAt wE B (.slice (some ⟨gl, 0, none⟩) n cl) (.slice (some ⟨gb, 0, none⟩) n cb) (.slice (some ⟨gs, 0, none⟩) n cs') := HwD.out.1.at'.below bdr
  have HwE : Hid (BK N wE B (.slice (some ⟨gl, 0, none⟩) n cl) (.slice (some ⟨gb, 0, none⟩) n cb) (.slice (some ⟨gs, 0, none⟩) n cs') (ms.set i ⟨a4, c4, M', mb - x2, msv⟩) ∧ Ch (BB B (.slice (some ⟨gl, 0, none⟩) n cl) (.slice (some ⟨gb, 0, none⟩) n cb) (.slice (some ⟨gs, 0, none⟩) n cs') ms) w wE) := ⟨HwD.out.1.below bdr, HwD.out.2.trans (Ch.ofBelow (S := fun _ => False) bdr) (fun _ _ e => e.elim)⟩
  rw [← hwA]
  clear hwA bdr
  refine MixH.takes [true, true, true, false, true, true, true, true, false, true, false, false, true] 7 (by kernel_rfl) (by kernel_rfl) (by decide) (by kernel_rfl) hS (fun K hK => ?_)
  simp only [Mix.pick]
  repeat (go_big_quiet_step (fail))
  refine wpQuiet_nil (hK _ ?_)
  clear hK K
  refine MixH.take 6 3 _ (.slice (some ⟨gs, 0, none⟩) n cs') rfl (by kernel_rfl) (by kernel_rfl) (by kernel_rfl) (by kernel_rfl) (yields_bkn (.tmp 85) rfl ⟨B, 2, none⟩ (.slice (some ⟨gs, 0, none⟩) n cs') rfl rfl (fun A hA => hA.cell 2)) hS (fun a' ha => ?_)
  simp only [Act.put, List.setIfInBounds_toArray, List.set_cons_succ, List.set_cons_zero] at ha
  subst ha
  refine MixH.take 5 8 _ (.slice (some ⟨gs, 0, none⟩) n cs') rfl (by kernel_rfl) (by kernel_rfl) (by kernel_rfl) (by kernel_rfl) (yields_bkn (.tmp 90) rfl ⟨B, 2, none⟩ (.slice (some ⟨gs, 0, none⟩) n cs') rfl rfl (fun A hA => hA.cell 2)) hS (fun a' ha => ?_)
  simp only [Act.put, List.setIfInBounds_toArray, List.set_cons_succ, List.set_cons_zero] at ha
  subst ha
  refine MixH.takes [false, false, false, false, false, false, false, false, false, false, true] 4 (by kernel_rfl) (by kernel_rfl) (by decide) (by kernel_rfl) hS (fun K hK => ?_)
  simp only [Mix.pick]
  repeat (go_big_quiet_step (fail))
  refine wpQuiet_nil (hK _ ?_)
  clear hK K
  refine MixH.one [false, false, false, false, false, false, false, false, false, false, false, true] 3 11 _ rfl rfl (by kernel_rfl) (by kernel_rfl) (fun K hK => ?_)
  simp only [Mix.pick]
  have cL : wE.cell? ⟨gs, i, none⟩ = some (.int .i64 msv) := HwE.out.1.s.cell1 bmS_len (set_get HM.out.1 _) (by unfold bmS; rfl)
  go_wp2_with fail
  clear cL
  refine ⟨rfl, hK _ _ hS ?_⟩
  clear hK K
  refine MixH.takes [false, false, false, false, false, false, false, false, false, false, false, false, false, true, true] 1 (by kernel_rfl) (by kernel_rfl) (by decide) (by kernel_rfl) hS (fun K hK => ?_)
  simp only [Mix.pick]
  repeat (go_big_quiet_step (fail))
  refine wpQuiet_nil (hK _ ?_)
  clear hK K
  refine MixH.one [false, false, false, false, false, false, false, false, false, false, false, false, false, false, false, true] 0 15 _ rfl rfl (by kernel_rfl) (by kernel_rfl) (fun K hK => ?_)
  simp only [Mix.pick]
  have cL : wE.cell? ⟨gs, i, none⟩ = some (.int .i64 msv) := HwE.out.1.s.cell1 bmS_len (set_get HM.out.1 _) (by unfold bmS; rfl)
  have zL := HwE.out.1.s.frozen i
  have kk : Ch (fun q => q = gs) wE (wE.setCell ⟨gs, i, none⟩ (.int .i64 (msv + x2))) := (Ch.refl (fun q => q = gs) wE).set ⟨gs, i, none⟩ _ rfl
  have hgk : ∀ q c ty, wE.heap[q]? = some (.cells c ty (0, 0)) → ty ≠ 3 → ¬ q = gs := fun q c ty hc hne e => by
    subst e
    obtain ⟨_, _, c', hc'⟩ := HwE.out.1.s.kind q rfl
    exact tk_ne hc hc' hne
  have HwF : Hid (BK N (wE.setCell ⟨gs, i, none⟩ (.int .i64 (msv + x2))) B (.slice (some ⟨gl, 0, none⟩) n cl) (.slice (some ⟨gb, 0, none⟩) n cb) (.slice (some ⟨gs, 0, none⟩) n cs') (ms.set i ⟨a4, c4, M', mb - x2, msv + x2⟩) ∧ Ch (BB B (.slice (some ⟨gl, 0, none⟩) n cl) (.slice (some ⟨gb, 0, none⟩) n cb) (.slice (some ⟨gs, 0, none⟩) n cs') ms) w (wE.setCell ⟨gs, i, none⟩ (.int .i64 (msv + x2)))) := by
    have g1 := HwE.out.1.s.set1 bmS_len (i := i) (m' := ⟨a4, c4, M', mb - x2, msv + x2⟩) (u := .int .i64 (msv + x2)) rfl (List.getElem?_eq_some_iff.1 (set_get HM.out.1 _)).1
    have h1 := HwE.out.1.putS (set_get HM.out.1 _) (m' := ⟨a4, c4, M', mb - x2, msv + x2⟩) (kk.mono (fun q _ e => by have e' : q = gs := e; rw [e']; rfl)) g1 rfl rfl rfl
    rw [List.set_set] at h1
    exact ⟨h1, HwE.out.2.trans kk (fun q _ e => .inr (.inr (.inr (.inl (by have e' : q = gs := e; rw [e']; rfl)))))⟩
  replace hS : BovAt (wE.setCell ⟨gs, i, none⟩ (.int .i64 (msv + x2))) B (.slice (some ⟨gl, 0, none⟩) n cl) (.slice (some ⟨gb, 0, none⟩) n cb) (.slice (some ⟨gs, 0, none⟩) n cs') := hS.ch kk (hgk _ _ _ hS (by decide))
  clear kk hgk
  go_wp2_with fail
  refine ⟨rfl, hK _ _ hS ?_⟩
  clear hK K
  refine MixH.done (by kernel_rfl) ?_
  clear hS
  obtain ⟨wF, hwD⟩ : ∃ y, wE.setCell ⟨gs, i, none⟩ (.int .i64 (msv + x2)) = y := ⟨_, rfl⟩
  rw [hwD] at HwF ⊢
  clear hwD
  go_wp2_with fail
  go_ret
  exact ⟨rfl, ⟨a4, c4, M', mb - x2, msv + x2⟩, HwF.out.1, rfl, by rw [HM.out.2.2.1], by rw [HM.out.2.2.2.1], HwF.out.2⟩
set_option maxHeartbeats 6400000 in
set_option maxRecDepth 100000 in
theorem agrees_any (N B : Nat) (lv bv sv : Value) (ms : List BM) (W : World) (P G : Nat) (cs : List CL) (t : TN) (w : World) (hk : BK N w B lv bv sv ms) (hq : Q1 W P G cs t w) (hag : Ag ms cs) : Calls Try.prog 32 #[.pointer (some ⟨B, 0, none⟩), .pointer (some ⟨P, 0, none⟩)] w fun r w' => r = .returned (.bool true) ∧ Q1 W P G cs t w' ∧ Below w.heap.size w w' := by
  obtain ⟨n, hn⟩ : ∃ n, ms.length = n := ⟨_, rfl⟩
  have hn8 : 1 ≤ n ∧ n ≤ 8 := by rw [← hn, hag.len]; exact hq.ok.len
  obtain ⟨m1, hm1⟩ : ∃ m, ms[0]? = some m := ⟨_, List.getElem?_eq_getElem (by omega)⟩
  obtain ⟨gl, cl, hlv, _, _, _⟩ := hk.l.at bmV_len 0 m1 hm1
  obtain ⟨gb, cb, hbv, _, _, _⟩ := hk.by'.at bmB_len 0 m1 hm1
  rw [hn] at hlv hbv
  subst hlv hbv
  have HK : Hid (BK N w B (.slice (some ⟨gl, 0, none⟩) n cl) (.slice (some ⟨gb, 0, none⟩) n cb) sv ms ∧ Q1 W P G cs t w ∧ Ag ms cs ∧ ms.length = n) := ⟨hk, hq, hag, hn⟩
  clear hk hq hag hn hm1
  go_enter Try.func32, Try.ntmps32
  go_wp2_with fail
  go_loopw [5] (fun ix wr => ∃ (k : Nat), ix = .int .i64 (k : Nat) ∧ k ≤ n ∧ Hid (BK N wr B (.slice (some ⟨gl, 0, none⟩) n cl) (.slice (some ⟨gb, 0, none⟩) n cb) sv ms ∧ Q1 W P G cs t wr ∧ Below w.heap.size w wr)) (fun ix _ => n - (intOf ix).toNat)
  case atStart => exact ⟨0, rfl, Nat.zero_le _, HK.out.1, HK.out.2.1, Below.refl _ _⟩
  case round =>
    obtain ⟨k, rfl, hk, HI⟩ := hrel
    have c0 : wr.cell? ⟨B, 0, none⟩ = some (.slice (some ⟨gl, 0, none⟩) n cl) := HI.out.1.at'.cell 0
    by_cases hkn : k < n
    · have p1 : decide ((k : Int) < (n : Int)) = true := decide_eq_true (by omega)
      have p2 : decide (k < n) = true := decide_eq_true hkn
      have k0 : (0 : Int) ≤ (k : Int) := by omega
      have k1 : (k : Int) < (n : Int) := by omega
      have k2 : ((k : Int)).toNat = k := by omega
      have wk : IntKind.i64.wrap ((k : Int) + 1) = (k : Int) + 1 := i64_s _ (by omega) (by omega)
      have HKN : Hid (k < n) := hkn
      obtain ⟨m, hm⟩ : ∃ m, ms[k]? = some m := ⟨_, List.getElem?_eq_getElem (by rw [HK.out.2.2.2]; exact hkn)⟩
      have hag := HK.out.2.2.1.at' k m hm
      obtain ⟨ma, hma⟩ : ∃ x, m.a = x := ⟨_, rfl⟩
      obtain ⟨mc, hmc⟩ : ∃ x, m.c = x := ⟨_, rfl⟩
      obtain ⟨ml, hml⟩ : ∃ x, m.M.length = x := ⟨_, rfl⟩
      obtain ⟨mb, hmb⟩ : ∃ x, m.b = x := ⟨_, rfl⟩
      have hkc : 0 ≤ (k : Int) ∧ (k : Int) ≤ (cs.length : Int) - 1 := by have := HK.out.2.2.1.len; have := HK.out.2.2.2; omega
      have HM : Hid (ms[k]? = some m ∧ m.v = .slice ma ml mc ∧ m.b = mb) := ⟨hm, by unfold BM.v; rw [hma, hmc, hml], hmb⟩
      have eL : lenQ cs (k : Int) = (ml : Int) := by unfold lenQ; rw [if_pos hkc, Int.toNat_natCast, ← hag.1, hml]
      have eB : bytQ cs (k : Int) = mb := by unfold bytQ; rw [if_pos hkc, Int.toNat_natCast, ← hag.2, hmb]
      have n1 : ((ml : Int) != (ml : Int)) = false := by simp
      have n2 : (mb != mb) = false := by simp
      have HEQ : Hid (lenQ cs (k : Int) = (ml : Int) ∧ bytQ cs (k : Int) = mb) := ⟨eL, eB⟩
      clear hm hag hma hmc hml hmb hkc eL eB hkn hk
      go_upto_region 4 with fail
      refine MixH.start (fun A => BovAt A B (.slice (some ⟨gl, 0, none⟩) n cl) (.slice (some ⟨gb, 0, none⟩) n cb) sv ∧ A.cell? ⟨gl, k, none⟩ = some (.slice ma ml mc) ∧ A.cell? ⟨gb, k, none⟩ = some (.int .i64 mb)) (by kernel_rfl) ?_
      obtain ⟨wA, hwA⟩ : ∃ W_, W_ = wr.drew := ⟨_, rfl⟩
      have bdr : Below wr.heap.size wr wA := by rw [hwA]; exact (Below.refl _ _).drew
      have HA : Hid (BK N wA B (.slice (some ⟨gl, 0, none⟩) n cl) (.slice (some ⟨gb, 0, none⟩) n cb) sv ms ∧ Q1 W P G cs t wA ∧ Below w.heap.size w wA) := ⟨HI.out.1.below bdr, HI.out.2.1.below bdr, bthen HI.out.2.2 bdr⟩
      have hS : BovAt wA B (.slice (some ⟨gl, 0, none⟩) n cl) (.slice (some ⟨gb, 0, none⟩) n cb) sv ∧ wA.cell? ⟨gl, k, none⟩ = some (.slice ma ml mc) ∧ wA.cell? ⟨gb, k, none⟩ = some (.int .i64 mb) := ⟨HA.out.1.at', HA.out.1.l.cell1 bmV_len HM.out.1 (by unfold bmV; rw [HM.out.2.1]), HA.out.1.by'.cell1 bmB_len HM.out.1 (by unfold bmB; rw [HM.out.2.2])⟩
      have QL : Hid _ := HA.out.2.1.len (k : Int)
      rw [HEQ.out.1] at QL
      rw [← hwA]
      clear hwA bdr
      clear c0
      refine MixH.takes [true, true, false, true, true, true, false, true] 19 (by kernel_rfl) (by kernel_rfl) (by decide) (by kernel_rfl) hS (fun K hK => ?_)
      simp only [Mix.pick]
      repeat (go_big_quiet_step (fail))
      refine wpQuiet_nil (hK _ ?_)
      clear hK K
      refine MixH.take 18 6 _ (.slice (some ⟨gl, 0, none⟩) n cl) rfl (by kernel_rfl) (by kernel_rfl) (by kernel_rfl) (by kernel_rfl) (yields_bks (.tmp 20) rfl ⟨B, 0, none⟩ (.slice (some ⟨gl, 0, none⟩) n cl) rfl rfl (fun A hA => hA.1.cell 0)) hS (fun a' ha => ?_)
      simp only [Act.put, List.setIfInBounds_toArray, List.set_cons_succ, List.set_cons_zero] at ha
      subst ha
      refine MixH.takes [false, false, false, false, false, false, false, false, true] 17 (by kernel_rfl) (by kernel_rfl) (by decide) (by kernel_rfl) hS (fun K hK => ?_)
      simp only [Mix.pick]
      repeat (go_big_quiet_step (fail))
      refine wpQuiet_nil (hK _ ?_)
      clear hK K
      refine MixH.take 16 9 _ (.slice ma ml mc) rfl (by kernel_rfl) (by kernel_rfl) (by kernel_rfl) (by kernel_rfl) (yields_bki (.tmp 23) rfl ⟨gl, k, none⟩ (.slice ma ml mc) rfl rfl (fun A hA => hA.2.1)) hS (fun a' ha => ?_)
      simp only [Act.put, List.setIfInBounds_toArray, List.set_cons_succ, List.set_cons_zero] at ha
      subst ha
      refine MixH.takes [false, false, false, false, false, false, false, false, false, false, true] 15 (by kernel_rfl) (by kernel_rfl) (by decide) (by kernel_rfl) hS (fun K hK => ?_)
      simp only [Mix.pick]
      repeat (go_big_quiet_step (fail))
      refine wpQuiet_nil (hK _ ?_)
      clear hK K
      refine MixH.one [false, false, true] 14 2 _ rfl rfl (by kernel_rfl) (by kernel_rfl) (fun K hK => ?_)
      simp only [Mix.pick]
      go_wp2_with fail
      refine Calls.mono (QL.out) ?_
      rintro e2 w2 ⟨rfl, q2, b2⟩
      have H2 : Hid (BK N w2 B (.slice (some ⟨gl, 0, none⟩) n cl) (.slice (some ⟨gb, 0, none⟩) n cb) sv ms ∧ Q1 W P G cs t w2 ∧ Below w.heap.size w w2) := ⟨HA.out.1.below b2, q2, bthen HA.out.2.2 b2⟩
      replace hS : BovAt w2 B (.slice (some ⟨gl, 0, none⟩) n cl) (.slice (some ⟨gb, 0, none⟩) n cb) sv ∧ w2.cell? ⟨gl, k, none⟩ = some (.slice ma ml mc) ∧ w2.cell? ⟨gb, k, none⟩ = some (.int .i64 mb) := ⟨H2.out.1.at', H2.out.1.l.cell1 bmV_len HM.out.1 (by unfold bmV; rw [HM.out.2.1]), H2.out.1.by'.cell1 bmB_len HM.out.1 (by unfold bmB; rw [HM.out.2.2])⟩
      have QB : Hid _ := H2.out.2.1.bytes (k : Int)
      rw [HEQ.out.2] at QB
      clear q2 b2 QL
      go_wp2_with fail
      refine ⟨rfl, hK _ _ hS ?_⟩
      clear hK K
      refine MixH.takes [false, false, false, false, false, false, false, false, false, false, false, true, true, true, true, false, true, true, true, false, true] 6 (by kernel_rfl) (by kernel_rfl) (by decide) (by kernel_rfl) hS (fun K hK => ?_)
      simp only [Mix.pick]
      repeat (go_big_quiet_step (fail))
      refine wpQuiet_nil (hK _ ?_)
      clear hK K
      refine MixH.take 5 19 _ (.slice (some ⟨gb, 0, none⟩) n cb) rfl (by kernel_rfl) (by kernel_rfl) (by kernel_rfl) (by kernel_rfl) (yields_bkn (.tmp 33) rfl ⟨B, 1, none⟩ (.slice (some ⟨gb, 0, none⟩) n cb) rfl rfl (fun A hA => hA.1.cell 1)) hS (fun a' ha => ?_)
      simp only [Act.put, List.setIfInBounds_toArray, List.set_cons_succ, List.set_cons_zero] at ha
      subst ha
      refine MixH.takes [false, false, false, false, false, false, false, false, false, false, false, false, false, false, false, false, false, false, false, false, false, true] 4 (by kernel_rfl) (by kernel_rfl) (by decide) (by kernel_rfl) hS (fun K hK => ?_)
      simp only [Mix.pick]
      repeat (go_big_quiet_step (fail))
      refine wpQuiet_nil (hK _ ?_)
      clear hK K
      refine MixH.take 3 22 _ (.int .i64 mb) rfl (by kernel_rfl) (by kernel_rfl) (by kernel_rfl) (by kernel_rfl) (yields_int (.tmp 36) rfl ⟨gb, k, none⟩ (.int .i64 mb) rfl rfl (fun A hA => hA.2.2)) hS (fun a' ha => ?_)
      simp only [Act.put, List.setIfInBounds_toArray, List.set_cons_succ, List.set_cons_zero] at ha
      subst ha
      refine MixH.one [false, false, false, false, false, false, false, false, false, false, false, false, false, false, false, true] 2 15 _ rfl rfl (by kernel_rfl) (by kernel_rfl) (fun K hK => ?_)
      simp only [Mix.pick]
      go_wp2_with fail
      refine Calls.mono (QB.out) ?_
      rintro e3 w3 ⟨rfl, q3, b3⟩
      have H3 : Hid (BK N w3 B (.slice (some ⟨gl, 0, none⟩) n cl) (.slice (some ⟨gb, 0, none⟩) n cb) sv ms ∧ Q1 W P G cs t w3 ∧ Below w.heap.size w w3) := ⟨H2.out.1.below b3, q3, bthen H2.out.2.2 b3⟩
      replace hS : BovAt w3 B (.slice (some ⟨gl, 0, none⟩) n cl) (.slice (some ⟨gb, 0, none⟩) n cb) sv ∧ w3.cell? ⟨gl, k, none⟩ = some (.slice ma ml mc) ∧ w3.cell? ⟨gb, k, none⟩ = some (.int .i64 mb) := ⟨H3.out.1.at', H3.out.1.l.cell1 bmV_len HM.out.1 (by unfold bmV; rw [HM.out.2.1]), H3.out.1.by'.cell1 bmB_len HM.out.1 (by unfold bmB; rw [HM.out.2.2])⟩
      clear q3 b3 QB
      go_wp2_with fail
      refine ⟨rfl, hK _ _ hS ?_⟩
      clear hK K
      refine MixH.takes [false, false, false, false, false, false, false, false, false, false, false, false, false, false, false, false, false, false, false, false, false, false, false, true, true] 0 (by kernel_rfl) (by kernel_rfl) (by decide) (by kernel_rfl) hS (fun K hK => ?_)
      simp only [Mix.pick]
      repeat (go_big_quiet_step (fail))
      refine wpQuiet_nil (hK _ ?_)
      clear hK K
      refine MixH.done (by kernel_rfl) ?_
      clear hS
      go_wp2_with fail
      go_roundw
      case rel => exact ⟨k + 1, by first | rfl | go_num, by have := HKN.out; omega, H3.out⟩
      case measure => have := HKN.out; simp [intOf]; omega
    · have p1 : decide ((k : Int) < (n : Int)) = false := decide_eq_false (by omega)
      have p2 : decide (k < n) = false := decide_eq_false hkn
      clear hkn hk
      go_wp2_with fail
      go_ret
      exact ⟨rfl, HI.out.2.1, HI.out.2.2⟩
end Go.Proofs.Ytclkcpdghpaboaa
