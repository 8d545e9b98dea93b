/-
  Layer 17: In.
-/
import Derived.Test.YtclpeepnngegaaaDoorFlFn7
namespace Go.Proofs.YtclpeepnngegaaaDoor
open Go.RowKit Go.Maps

theorem awO_mem {c : CF} {E : List FV} {x : TU} {e : FV} (h : awO c E x = some e) : e ∈ E := by
  unfold awO at h
  split at h
  · exact (fF_some h).1
  · obtain ⟨f, h1, h2⟩ := Option.bind_eq_some_iff.1 h
    split at h2
    · obtain rfl := Option.some.inj h2
      exact (fQ_some h1).1
    · cases h2
/-- what In does -/
def InR (c : CF) (E : List FV) (x : TU) (fl : Int) (er : Int) (y : TU) (E' : List FV) : Prop :=
  (ckE x ≠ 0 ∧ er = ckE x ∧ y = xz ∧ E' = E) ∨
  (ckE x = 0 ∧ awO c E x = none ∧ er = 175 ∧ y = xz ∧ E' = E) ∨
  (ckE x = 0 ∧ ∃ e, awO c E x = some e ∧ ((iT e.n.st (sgN x.pr fl) = 0 ∧ er = 173 ∧ y = xz ∧ E' = E) ∨ (iT e.n.st (sgN x.pr fl) ≠ 0 ∧ er = 0 ∧ y = e.n.x.rev ∧ E' = turnE c E e (iT e.n.st (sgN x.pr fl)))))
set_option maxHeartbeats 1600000 in
set_option maxRecDepth 100000 in
theorem in_any (t M N : Nat) (c : CF) (E : List FV) (w : World) (h : TA w t M N c E) (hc : CfOk c) (hl : E.length ≤ 4096) (hst : ∀ e ∈ E, StOk e) (x : TU) (hx : x.Wf) (fl : Int) (hT : iTb w) : Calls Tryd.prog 12 #[.pointer (some ⟨t, 0, none⟩), .agg (tuC x), .int .i64 fl] w fun r w' => ∃ er y E', r = .returned (.tuple #[.agg (tuC y), .int .i64 er]) ∧ InR c E x fl er y E' ∧ TA w' t M N c E' ∧ Ch (TB t M N E) w w' := by
  have HH : Hid (TA w t M N c E ∧ CfOk c ∧ E.length ≤ 4096 ∧ (∀ e ∈ E, StOk e) ∧ x.Wf ∧ iTb w) := ⟨h, hc, hl, hst, hx, hT⟩
  clear h hc hl hst hx hT
  obtain ⟨sg, hsg⟩ : ∃ sg : Nat, sgN x.pr fl = (sg : Int) := ⟨(sgN x.pr fl).toNat, by have := sgN_lt x.pr fl; omega⟩
  have HSG : Hid (sgN x.pr fl = (sg : Int) ∧ sg < 7) := ⟨hsg, by have := sgN_lt x.pr fl; omega⟩
  have g0 : (0 : Int) ≤ (sg : Int) := by omega
  have g1 : (sg : Int) < 7 := by have := HSG.out.2; omega
  have g2 : ((sg : Int)).toNat = sg := by omega
  clear hsg
  have hb := tup_new w x
  have bel : Below w.heap.size w (w.alloc (.cells (tuC x) 34)) := (Below.refl _ _).alloc (Nat.le_refl _) _
  obtain ⟨CX, hC⟩ : ∃ C, C = tuC x := ⟨_, rfl⟩
  obtain ⟨W, hW⟩ : ∃ W, W = w.alloc (.cells (tuC x) 34) := ⟨_, rfl⟩
  rw [← hW] at hb bel
  have HSZX : Hid (W.heap.size = w.heap.size + 1) := by show _ = _; rw [hW, World.size_alloc]
  obtain ⟨B, hB⟩ : ∃ B, B = w.heap.size := ⟨_, rfl⟩
  rw [← hB] at hb
  have HBX : Hid (TupAt W B x) := hb
  rw [← hC] at hW ⊢
  have HOX : Hid (w.heap.size = B) := hB.symm
  have HLX : Hid (Below w.heap.size w W) := bel
  have HWX : Hid (w.alloc (.cells CX 34) = W) := hW.symm
  clear hb hW hB hC bel
  obtain ⟨Y, hY⟩ : ∃ Y, Y = W.alloc (.cells (tuC xz) 34) := ⟨_, rfl⟩
  have bY : Below W.heap.size W Y := by rw [hY]; exact (Below.refl _ _).alloc (Nat.le_refl _) _
  obtain ⟨O, hO⟩ : ∃ O, O = W.heap.size := ⟨_, rfl⟩
  have HNY : Hid (TupAt Y O xz) := by show TupAt Y O xz; rw [hY, hO]; exact tup_new W xz
  have HLY : Hid (Below W.heap.size W Y) := bY
  have HEY : Hid (W.alloc (.cells (tuC xz) 34) = Y) := hY.symm
  have HOY : Hid (W.heap.size = O) := hO.symm
  clear hY bY hO
  have HOB : Hid (w.heap.size = B ∧ B < O) := by have h1 := HSZX.out; have h2 := HOY.out; have h3 := HOX.out; exact ⟨h3, by omega⟩
  have H1 : Hid (TA Y t M N c E ∧ TupAt Y B x ∧ TupAt Y O xz ∧ Below w.heap.size w Y) := ⟨(HH.out.1.below HLX.out).below HLY.out, HBX.out.below HLY.out, HNY.out, bthen HLX.out HLY.out⟩
  have QC : Hid _ := check_any x Y HH.out.2.2.2.2.1
  obtain ⟨ck, hck⟩ : ∃ ck, ckE x = ck := ⟨_, rfl⟩
  rw [hck] at QC
  have HCK : Hid (ckE x = ck) := hck
  clear hck
  go_enter Tryd.func12, Tryd.ntmps12
  go_wp2_with (first | (rw [HOX.out, HWX.out]; refine wpList_alloc_tup rfl rfl ?_; rw [HEY.out, HOY.out]) | (refine wpList_load_tup (.tmp 4) rfl B x rfl H1.out.2.1 rfl ?_))
  refine Calls.mono QC.out ?_
  rintro e0 w2 ⟨rfl, b2⟩
  have H2 : Hid (TA w2 t M N c E ∧ TupAt w2 B x ∧ TupAt w2 O xz ∧ Below w.heap.size w w2) := ⟨H1.out.1.below b2, H1.out.2.1.below b2, H1.out.2.2.1.below b2, bthen H1.out.2.2.2 b2⟩
  clear b2 QC H1
  by_cases h0 : ck = 0
  · subst h0
    have QA : Hid _ := awaiting_any t M N c E w2 H2.out.1 x HH.out.2.2.2.2.1
    obtain ⟨aw, haw⟩ : ∃ aw, awO c E x = aw := ⟨_, rfl⟩
    rw [haw] at QA
    have HAW : Hid (awO c E x = aw) := haw
    clear haw
    go_wp2_with (first | (refine wpList_load_tup (.tmp 4) rfl B x rfl H2.out.2.1 rfl ?_))
    refine Calls.mono QA.out ?_
    rintro e1 w3 ⟨rfl, b3⟩
    have H3 : Hid (TA w3 t M N c E ∧ TupAt w3 B x ∧ TupAt w3 O xz ∧ Below w.heap.size w w3) := ⟨H2.out.1.below b3, H2.out.2.1.below b3, H2.out.2.2.1.below b3, bthen H2.out.2.2.2 b3⟩
    clear b3 QA H2
    cases aw with
    | none =>
      simp only [ptF]
      go_wp2_with (first | (refine wpList_build_tu0 rfl rfl ?_) | (refine wpList_store_tup (.tmp 6) (.tmp 22) rfl rfl O xz xz rfl rfl H3.out.2.2.1 rfl ?_))
      intro w9 h9 k9
      go_wp2_with fail
      refine bodyPost_ret (results_tup_tmp rfl _ _ O _ rfl h9) rfl ?_
      have hS9 := H3.out
      have k10 : Ch (TB t M N E) w w9 := (Ch.ofBelow hS9.2.2.2).trans (k9.mono (T := fun q => q = O) (fun _ _ h => h)) (fun q hq h => by have h' : q = O := h; have := HOB.out; omega)
      exact ⟨175, xz, E, rfl, .inr (.inl ⟨HCK.out, HAW.out, rfl, rfl, rfl⟩), hS9.1.ch k9 (fun q hq hq2 => by have h1 := hS9.1; have h2 := HH.out.1.tlt q hq; have h3 : q = O := hq2; have := HOB.out; omega), k10⟩
    | some e =>
      simp only [ptF]
      have HFS : Hid (e ∈ E) := awO_mem HAW.out
      obtain ⟨s, hs⟩ : ∃ s : Nat, e.n.st = (s : Int) := ⟨e.n.st.toNat, by have := HH.out.2.2.2.1 e HFS.out; have := this.lo; omega⟩
      have HSTE : Hid (e.n.st = (s : Int)) := hs
      have HST : Hid (s < 8) := by have h1 := HH.out.2.2.2.1 e HFS.out; have := h1.hi; show s < 8; omega
      have s0 : (0 : Int) ≤ (s : Int) := by omega
      have s1 : (s : Int) < 8 := by have := HST.out; omega
      have s2 : ((s : Int)).toNat = s := by omega
      clear hs
      obtain ⟨v, hvv⟩ : ∃ v, v = iT s sg := ⟨_, rfl⟩
      have HVV : Hid (v = iT s sg) := hvv
      have HVE : Hid (iT e.n.st (sgN x.pr fl) = v) := by show _ = _; rw [HSTE.out, HSG.out.1, hvv]
      clear hvv
      have HP7 : Hid (TA w3 t M N c E ∧ TupAt w3 B x ∧ TupAt w3 O xz ∧ Below w.heap.size w w3 ∧ FloAt w3 e.P e.n) := ⟨H3.out.1, H3.out.2.1, H3.out.2.2.1, H3.out.2.2.2, H3.out.1.en e HFS.out⟩
      go_upto_region 7 with fail
      refine MixH.start (fun A => TA A t M N c E ∧ TupAt A B x ∧ A.cell? ⟨e.P, 38, none⟩ = some (.int .i64 (s : Nat)) ∧ iTb A) (by kernel_rfl) ?_
      obtain ⟨wA7, hwA⟩ : ∃ wA, wA = w3.drew := ⟨_, rfl⟩
      have bdr : Below w3.heap.size w3 wA7 := by rw [hwA]; exact (Below.refl _ _).drew
      have HA7 : Hid (TA wA7 t M N c E ∧ TupAt wA7 B x ∧ TupAt wA7 O xz ∧ Below w.heap.size w wA7 ∧ FloAt wA7 e.P e.n) := ⟨HP7.out.1.below bdr, HP7.out.2.1.below bdr, HP7.out.2.2.1.below bdr, bthen HP7.out.2.2.2.1 bdr, HP7.out.2.2.2.2.below bdr⟩
      have hS : TA wA7 t M N c E ∧ TupAt wA7 B x ∧ wA7.cell? ⟨e.P, 38, none⟩ = some (.int .i64 (s : Nat)) ∧ iTb wA7 := ⟨HA7.out.1, HA7.out.2.1, by rw [HA7.out.2.2.2.2.c38, HSTE.out], HH.out.2.2.2.2.2.old HA7.out.2.2.2.1⟩
      have QS : Hid _ := segment_any x.pr fl wA7
      rw [HSG.out.1] at QS
      rw [← hwA]
      clear hwA bdr
      refine MixH.takes [true, true, true, false, true, false, true] 7 (by kernel_rfl) (by kernel_rfl) (by decide) (by kernel_rfl) hS (fun K hK => ?_)
      simp only [Mix.pick]
      repeat (go_big_quiet_step (fail))
      refine wpQuiet_nil (hK _ ?_)
      clear hK K
      refine MixH.take 6 3 _ (.int .i64 (s : Nat)) rfl (by kernel_rfl) (by kernel_rfl) (by kernel_rfl) (by kernel_rfl) (yields_int (.tmp 25) rfl ⟨e.P, 38, none⟩ (.int .i64 (s : Nat)) rfl rfl (fun A hA => hA.2.2.1)) hS (fun a' ha => ?_)
      simp only [Act.put, List.setIfInBounds_toArray, List.set_cons_succ, List.set_cons_zero] at ha
      subst ha
      refine MixH.takes [false, false, false, false, false, false, false, false, true] 5 (by kernel_rfl) (by kernel_rfl) (by decide) (by kernel_rfl) hS (fun K hK => ?_)
      simp only [Mix.pick]
      repeat (go_big_quiet_step (fail))
      refine wpQuiet_nil (hK _ ?_)
      clear hK K
      refine MixH.take 4 5 _ (.int .i64 x.pr) rfl (by kernel_rfl) (by kernel_rfl) (by kernel_rfl) (by kernel_rfl) (yields_int (.tmp 27) rfl ⟨B, 0, none⟩ (.int .i64 x.pr) rfl rfl (fun A hA => hA.2.1.c0)) hS (fun a' ha => ?_)
      simp only [Act.put, List.setIfInBounds_toArray, List.set_cons_succ, List.set_cons_zero] at ha
      subst ha
      refine MixH.one [false, false, false, false, false, false, false, true] 3 7 _ rfl rfl (by kernel_rfl) (by kernel_rfl) (fun K hK => ?_)
      simp only [Mix.pick]
      go_wp2_with fail
      refine Calls.mono QS.out ?_
      rintro e1 wS ⟨rfl, bS⟩
      have HS7 : Hid (TA wS t M N c E ∧ TupAt wS B x ∧ TupAt wS O xz ∧ Below w.heap.size w wS ∧ FloAt wS e.P e.n) := ⟨HA7.out.1.below bS, HA7.out.2.1.below bS, HA7.out.2.2.1.below bS, bthen HA7.out.2.2.2.1 bS, HA7.out.2.2.2.2.below bS⟩
      have hS8 : TA wS t M N c E ∧ TupAt wS B x ∧ wS.cell? ⟨e.P, 38, none⟩ = some (.int .i64 (s : Nat)) ∧ iTb wS := ⟨hS.1.below bS, hS.2.1.below bS, (bS.cell (p := ⟨e.P, 38, none⟩) (World.block_lt_of_cell? _ _ hS.2.2.1)).trans hS.2.2.1, hS.2.2.2.old bS⟩
      clear hS bS QS
      have hS := hS8
      clear hS8
      go_wp2_with fail
      refine ⟨rfl, hK _ _ hS ?_⟩
      clear hK K
      refine MixH.takes [false, false, false, false, false, false, false, false, false, true] 2 (by kernel_rfl) (by kernel_rfl) (by decide) (by kernel_rfl) hS (fun K hK => ?_)
      simp only [Mix.pick]
      repeat (go_big_quiet_step (fail))
      refine wpQuiet_nil (hK _ ?_)
      clear hK K
      refine MixH.take 1 10 _ (.int .i64 v) rfl (by kernel_rfl) (by kernel_rfl) (by kernel_rfl) (by kernel_rfl) (yields_int (.tmp 32) rfl ⟨1, s * 7 + sg, none⟩ (.int .i64 v) rfl rfl (fun A hA => by rw [HVV.out]; exact iTb.at hA.2.2.2 s sg HST.out HSG.out.2)) hS (fun a' ha => ?_)
      simp only [Act.put, List.setIfInBounds_toArray, List.set_cons_succ, List.set_cons_zero] at ha
      subst ha
      refine MixH.takes [false, false, false, false, false, false, false, false, false, false, false, true] 0 (by kernel_rfl) (by kernel_rfl) (by decide) (by kernel_rfl) hS (fun K hK => ?_)
      simp only [Mix.pick]
      repeat (go_big_quiet_step (fail))
      refine wpQuiet_nil (hK _ ?_)
      clear hK K
      refine MixH.done (by kernel_rfl) ?_
      clear hS
      by_cases hv0 : v = 0
      · have HV0 : Hid (iT e.n.st (sgN x.pr fl) = 0) := by show _ = _; rw [HVE.out, hv0]
        subst hv0
        go_wp2_with (first | (refine wpList_build_tu0 rfl rfl ?_) | (refine wpList_store_tup (.tmp 6) (.tmp 36) rfl rfl O xz xz rfl rfl HS7.out.2.2.1 rfl ?_))
        intro w9 h9 k9
        go_wp2_with fail
        refine bodyPost_ret (results_tup_tmp rfl _ _ O _ rfl h9) rfl ?_
        have hS9 := HS7.out
        have k10 : Ch (TB t M N E) w w9 := (Ch.ofBelow hS9.2.2.2.1).trans (k9.mono (T := fun q => q = O) (fun _ _ h => h)) (fun q hq h => by have h' : q = O := h; have := HOB.out; omega)
        exact ⟨173, xz, E, rfl, .inr (.inr ⟨HCK.out, e, HAW.out, .inl ⟨HV0.out, rfl, rfl, rfl⟩⟩), hS9.1.ch k9 (fun q hq hq2 => by have h1 := hS9.1; have h2 := HH.out.1.tlt q hq; have h3 : q = O := hq2; have := HOB.out; omega), k10⟩
      · have qv : (v == 0) = false := by simpa using hv0
        have HV0 : Hid (iT e.n.st (sgN x.pr fl) ≠ 0) := by show _ ≠ _; rw [HVE.out]; exact hv0
        clear hv0
        have QT : Hid _ := turn_any t M N c E wS HS7.out.1 e HFS.out v
        go_wp2_with fail
        refine Calls.mono QT.out ?_
        rintro e2 w5 ⟨rfl, hTA5, k5, f5, hF5, hx5, hp5⟩
        have H5 : Hid (TA w5 t M N c (turnE c E e v) ∧ Ch (TB t M N E) wS w5 ∧ w5.rangeAt e.P 0 (tuC e.n.x).toList ∧ TupAt w5 O xz) := ⟨hTA5, k5, by rw [← hx5]; exact hF5.tup, HS7.out.2.2.1.ch k5 (fun q => by have h1 := HH.out.1.tlt O q; have := HOB.out; omega)⟩
        clear hTA5 k5 hF5 hx5 hp5 QT
        have QO : Hid _ := reverse_any e.n.x w5
        go_wp2_with (first | (refine wpList_mid_tup (.tmp 43) rfl e.P 0 e.n.x rfl H5.out.2.2.1 rfl ?_))
        refine Calls.mono QO.out ?_
        rintro e3 w6 ⟨rfl, b6⟩
        have H6 : Hid (TA w6 t M N c (turnE c E e v) ∧ Ch (TB t M N E) w w6 ∧ TupAt w6 O xz) := ⟨H5.out.1.below b6, ((Ch.ofBelow HS7.out.2.2.2.1).trans H5.out.2.1 (fun _ _ h => h)).trans (Ch.ofBelow (S := fun _ => False) b6) (fun _ _ h => h.elim), H5.out.2.2.2.below b6⟩
        clear b6 QO
        go_wp2_with (first | (refine wpList_store_tup (.tmp 6) (.tmp 45) rfl rfl O xz e.n.x.rev rfl rfl H6.out.2.2 rfl ?_))
        intro w9 h9 k9
        go_wp2_with fail
        refine bodyPost_ret (results_tup_tmp rfl _ _ O _ rfl h9) rfl ?_
        have k10 : Ch (TB t M N E) w w9 := H6.out.2.1.trans (k9.mono (T := fun q => q = O) (fun _ _ h => h)) (fun q hq h => by have h' : q = O := h; have := HOB.out; omega)
        have hTB : ∀ q, TB t M N (turnE c E e v) q → q < w.heap.size := fun q hq => by
          refine HH.out.1.tlt q ?_
          unfold turnE at hq
          split at hq
          · exact TB.gone q hq
          · exact TB.turned (e' := e.turn c v) (fF_mem HH.out.1.dj HFS.out (eqP_refl _)) rfl q hq
        exact ⟨0, e.n.x.rev, turnE c E e v, rfl, .inr (.inr ⟨HCK.out, e, HAW.out, .inr ⟨HV0.out, rfl, rfl, by rw [HVE.out]⟩⟩), H6.out.1.ch k9 (fun q hq hq2 => by have h2 := hTB q hq; have h3 : q = O := hq2; have := HOB.out; omega), k10⟩
  · have q0 : (ck != 0) = true := by simpa using h0
    have HC0 : Hid (ckE x ≠ 0) := by show _ ≠ _; rw [HCK.out]; exact h0
    clear h0
    go_wp2_with (first | (refine wpList_build_tu0 rfl rfl ?_) | (refine wpList_store_tup (.tmp 6) (.tmp 15) rfl rfl O xz xz rfl rfl H2.out.2.2.1 rfl ?_))
    intro w9 h9 k9
    go_wp2_with fail
    refine bodyPost_ret (results_tup_tmp rfl _ _ O _ rfl h9) rfl ?_
    have hS9 := H2.out
    have k10 : Ch (TB t M N E) w w9 := (Ch.ofBelow hS9.2.2.2).trans (k9.mono (T := fun q => q = O) (fun _ _ h => h)) (fun q hq h => by have h' : q = O := h; have := HOB.out; omega)
    exact ⟨ck, xz, E, rfl, .inl ⟨HC0.out, HCK.out.symm, rfl, rfl⟩, hS9.1.ch k9 (fun q hq hq2 => by have h1 := hS9.1; have h2 := HH.out.1.tlt q hq; have h3 : q = O := hq2; have := HOB.out; omega), k10⟩
end Go.Proofs.YtclpeepnngegaaaDoor
