/-
  FlFn8 FlNew: lemmas of the proof of FlowPlays, and walks through the functions that it calls.
-/
import Derived.Test.YtclpeepnngegaaaGreatDoorP00
import Derived.Test.YtclpeepnngegaaaGreatDoorP10
namespace Go.Proofs.YtclpeepnngegaaaGreatDoor
open Go.RowKit Go.Maps
theorem awO_mem {c : CF} {E : List FV} {x : TU} {e : FV} (h : awO c E x = some e) : e ∈ E := by
 unfold awO at h
 split at h
 · exact (fF_some h).1
 · obtain ⟨f, h1, h2⟩ := Option.bind_eq_some_iff.1 h
   split at h2
   · obtain rfl := Option.some.inj h2
     exact (fQ_some h1).1
   · cases h2
def InR (c : CF) (E : List FV) (x : TU) (fl : Int) (er : Int) (y : TU) (E' : List FV) : Prop :=
 (ckE x ≠ 0 ∧ er = ckE x ∧ y = xz ∧ E' = E) ∨
 (ckE x = 0 ∧ awO c E x = none ∧ er = 175 ∧ y = xz ∧ E' = E) ∨
 (ckE x = 0 ∧ ∃ e, awO c E x = some e ∧ ((iT e.n.st (sgN x.pr fl) = 0 ∧ er = 173 ∧ y = xz ∧ E' = E) ∨ (iT e.n.st (sgN x.pr fl) ≠ 0 ∧ er = 0 ∧ y = e.n.x.rev ∧ E' = turnE c E e (iT e.n.st (sgN x.pr fl)))))
set_option maxHeartbeats 1600000 in
set_option maxRecDepth 100000 in
theorem in_any (t M N : Nat) (c : CF) (E : List FV) (w : World) (h : TA w t M N c E) (hc : CfOk c) (hl : E.length ≤ 4096) (hst : ∀ e ∈ E, StOk e) (x : TU) (hx : x.Wf) (fl : Int) (hT : iTb w) : Calls Tryz.prog 15 #[.pointer (some ⟨t, 0, none⟩), .agg (tuC x), .int .i64 fl] w fun r w' => ∃ er y E', r = .returned (.tuple #[.agg (tuC y), .int .i64 er]) ∧ InR c E x fl er y E' ∧ TA w' t M N c E' ∧ Ch (TB t M N E) w w' := by
 have HH : Hid (TA w t M N c E ∧ CfOk c ∧ E.length ≤ 4096 ∧ (∀ e ∈ E, StOk e) ∧ x.Wf ∧ iTb w) := ⟨h, hc, hl, hst, hx, hT⟩
 clear h hc hl hst hx hT
 obtain ⟨sg, hsg⟩ : ∃ sg : Nat, sgN x.pr fl = (sg : Int) := ⟨(sgN x.pr fl).toNat, by have := sgN_lt x.pr fl; omega⟩
 have HSG : Hid (sgN x.pr fl = (sg : Int) ∧ sg < 7) := ⟨hsg, by have := sgN_lt x.pr fl; omega⟩
 have g0 : (0 : Int) ≤ (sg : Int) := by omega
 have g1 : (sg : Int) < 7 := by have := HSG.out.2; omega
 have g2 : ((sg : Int)).toNat = sg := by omega
 clear hsg
 obtain ⟨W, B, HSZX, HOX, HLX, HWX, hb⟩ := zBx w (tuC x) 38
 have HBX : Hid (TupAt W B x) := hb
 obtain ⟨CX, hC⟩ : ∃ C, C = tuC x := ⟨_, rfl⟩
 rw [← hC] at HWX ⊢
 clear hb hC
 obtain ⟨Y, O, -, HOY, HLY, HEY, hb⟩ := zBx W (tuC xz) 38
 have HNY : Hid (TupAt Y O xz) := hb
 clear hb
 have HOB : Hid (w.heap.size = B ∧ B < O) := by have h1 := HSZX.out; have h2 := HOY.out; have h3 := HOX.out; exact ⟨h3, by omega⟩
 have H1 : Hid (TA Y t M N c E ∧ TupAt Y B x ∧ TupAt Y O xz ∧ Below w.heap.size w Y) := ⟨(HH.out.1.below HLX.out).below HLY.out, HBX.out.below HLY.out, HNY.out, bthen HLX.out HLY.out⟩
 have QC : Hid _ := check_any x Y HH.out.2.2.2.2.1
 obtain ⟨ck, hck⟩ : ∃ ck, ckE x = ck := ⟨_, rfl⟩
 rw [hck] at QC
 have HCK : Hid (ckE x = ck) := hck
 clear hck
 go_enter Tryz.func15, Tryz.ntmps15
 go_wp2_with (first | (rw [HOX.out, HWX.out]; refine wpList_alloc_tup rfl rfl ?_; rw [HEY.out, HOY.out]) | (refine wpList_load_tup (.tmp 4) rfl B x rfl H1.out.2.1 rfl ?_))
 refine Calls.mono QC.out ?_
 rintro e0 w2 ⟨rfl, b2⟩
 have H2 : Hid (TA w2 t M N c E ∧ TupAt w2 B x ∧ TupAt w2 O xz ∧ Below w.heap.size w w2) := ⟨H1.out.1.below b2, H1.out.2.1.below b2, H1.out.2.2.1.below b2, bthen H1.out.2.2.2 b2⟩
 clear b2 QC H1
 by_cases h0 : ck = 0
 · subst h0
   have QA : Hid _ := awaiting_any t M N c E w2 H2.out.1 x HH.out.2.2.2.2.1
   obtain ⟨aw, haw⟩ : ∃ aw, awO c E x = aw := ⟨_, rfl⟩
   rw [haw] at QA
   have HAW : Hid (awO c E x = aw) := haw
   clear haw
   go_wp2_with (first | (refine wpList_load_tup (.tmp 4) rfl B x rfl H2.out.2.1 rfl ?_))
   refine Calls.mono QA.out ?_
   rintro e1 w3 ⟨rfl, b3⟩
   have H3 : Hid (TA w3 t M N c E ∧ TupAt w3 B x ∧ TupAt w3 O xz ∧ Below w.heap.size w w3) := ⟨H2.out.1.below b3, H2.out.2.1.below b3, H2.out.2.2.1.below b3, bthen H2.out.2.2.2 b3⟩
   clear b3 QA H2
   cases aw with
   | none =>
    simp only [ptF]
    go_wp2_with (first | (refine wpList_build_tu0 rfl rfl ?_) | (refine wpList_store_tup (.tmp 6) (.tmp 22) rfl rfl O xz xz rfl rfl H3.out.2.2.1 rfl ?_))
    intro w9 h9 k9
    go_wp2_with fail
    refine bodyPost_ret (results_tup_tmp rfl _ _ O _ rfl h9) rfl ?_
    have hS9 := H3.out
    have k10 : Ch (TB t M N E) w w9 := (Ch.ofBelow hS9.2.2.2).trans (k9.mono (T := fun q => q = O) (fun _ _ h => h)) (fun q hq h => by have h' : q = O := h; have := HOB.out; omega)
    exact ⟨175, xz, E, rfl, .inr (.inl ⟨HCK.out, HAW.out, rfl, rfl, rfl⟩), hS9.1.ch k9 (fun q hq hq2 => by have h1 := hS9.1; have h2 := HH.out.1.tlt q hq; have h3 : q = O := hq2; have := HOB.out; omega), k10⟩
   | some e =>
    simp only [ptF]
    have HFS : Hid (e ∈ E) := awO_mem HAW.out
    obtain ⟨s, hs⟩ : ∃ s : Nat, e.n.st = (s : Int) := ⟨e.n.st.toNat, by have := HH.out.2.2.2.1 e HFS.out; have := this.lo; omega⟩
    have HSTE : Hid (e.n.st = (s : Int)) := hs
    have HST : Hid (s < 8) := by have h1 := HH.out.2.2.2.1 e HFS.out; have := h1.hi; show s < 8; omega
    have s0 : (0 : Int) ≤ (s : Int) := by omega
    have s1 : (s : Int) < 8 := by have := HST.out; omega
    have s2 : ((s : Int)).toNat = s := by omega
    clear hs
    obtain ⟨v, hvv⟩ : ∃ v, v = iT s sg := ⟨_, rfl⟩
    have HVV : Hid (v = iT s sg) := hvv
    have HVE : Hid (iT e.n.st (sgN x.pr fl) = v) := by show _ = _; rw [HSTE.out, HSG.out.1, hvv]
    clear hvv
    have HP7 : Hid (TA w3 t M N c E ∧ TupAt w3 B x ∧ TupAt w3 O xz ∧ Below w.heap.size w w3 ∧ FloAt w3 e.P e.n) := ⟨H3.out.1, H3.out.2.1, H3.out.2.2.1, H3.out.2.2.2, H3.out.1.en e HFS.out⟩
    go_upto_region 7 with fail
    refine MixH.start (fun A => TA A t M N c E ∧ TupAt A B x ∧ A.cell? ⟨e.P, 38, none⟩ = some (.int .i64 (s : Nat)) ∧ iTb A) (by kernel_rfl) ?_
    obtain ⟨wA7, hwA⟩ : ∃ wA, wA = w3.drew := ⟨_, rfl⟩
    have bdr := zDr hwA
    have HA7 : Hid (TA wA7 t M N c E ∧ TupAt wA7 B x ∧ TupAt wA7 O xz ∧ Below w.heap.size w wA7 ∧ FloAt wA7 e.P e.n) := ⟨HP7.out.1.below bdr, HP7.out.2.1.below bdr, HP7.out.2.2.1.below bdr, bthen HP7.out.2.2.2.1 bdr, HP7.out.2.2.2.2.below bdr⟩
    have hS : TA wA7 t M N c E ∧ TupAt wA7 B x ∧ wA7.cell? ⟨e.P, 38, none⟩ = some (.int .i64 (s : Nat)) ∧ iTb wA7 := ⟨HA7.out.1, HA7.out.2.1, by rw [HA7.out.2.2.2.2.c38, HSTE.out], HH.out.2.2.2.2.2.old HA7.out.2.2.2.1⟩
    have QS : Hid _ := segment_any x.pr fl wA7
    rw [HSG.out.1] at QS
    rw [← hwA]
    clear hwA bdr
    refine MixH.tks [true, true, true, false, true, false, true] 7 hS (fun K hK => ?_)
    simp only [Mix.pick]
    repeat (go_big_quiet_step (fail))
    refine wpQuiet_nil (hK _ ?_)
    clear hK K
    refine MixH.tk 6 3 rfl (.int .i64 (s : Nat)) (yields_int (.tmp 25) rfl ⟨e.P, 38, none⟩ (.int .i64 (s : Nat)) rfl rfl (fun A hA => hA.2.2.1)) hS (fun a' ha => ?_)
    simp only [zP1, zP2, zP3, zP4] at ha
    subst ha
    refine MixH.tks [false, false, false, false, false, false, false, false, true] 5 hS (fun K hK => ?_)
    simp only [Mix.pick]
    repeat (go_big_quiet_step (fail))
    refine wpQuiet_nil (hK _ ?_)
    clear hK K
    refine MixH.tk 4 5 rfl (.int .i64 x.pr) (yields_int (.tmp 27) rfl ⟨B, 0, none⟩ (.int .i64 x.pr) rfl rfl (fun A hA => hA.2.1.c0)) hS (fun a' ha => ?_)
    simp only [zP1, zP2, zP3, zP4] at ha
    subst ha
    refine MixH.one [false, false, false, false, false, false, false, true] 3 7 _ rfl rfl (by kernel_rfl) (by kernel_rfl) (fun K hK => ?_)
    simp only [Mix.pick]
    go_wp2_with fail
    refine Calls.mono QS.out ?_
    rintro e1 wS ⟨rfl, bS⟩
    have HS7 : Hid (TA wS t M N c E ∧ TupAt wS B x ∧ TupAt wS O xz ∧ Below w.heap.size w wS ∧ FloAt wS e.P e.n) := ⟨HA7.out.1.below bS, HA7.out.2.1.below bS, HA7.out.2.2.1.below bS, bthen HA7.out.2.2.2.1 bS, HA7.out.2.2.2.2.below bS⟩
    have hS8 : TA wS t M N c E ∧ TupAt wS B x ∧ wS.cell? ⟨e.P, 38, none⟩ = some (.int .i64 (s : Nat)) ∧ iTb wS := ⟨hS.1.below bS, hS.2.1.below bS, (bS.cell (p := ⟨e.P, 38, none⟩) (World.block_lt_of_cell? _ _ hS.2.2.1)).trans hS.2.2.1, hS.2.2.2.old bS⟩
    clear hS bS QS
    have hS := hS8
    clear hS8
    go_wp2_with fail
    refine ⟨rfl, hK _ _ hS ?_⟩
    clear hK K
    refine MixH.tks [false, false, false, false, false, false, false, false, false, true] 2 hS (fun K hK => ?_)
    simp only [Mix.pick]
    repeat (go_big_quiet_step (fail))
    refine wpQuiet_nil (hK _ ?_)
    clear hK K
    refine MixH.tk 1 10 rfl (.int .i64 v) (yields_int (.tmp 32) rfl ⟨1, s * 7 + sg, none⟩ (.int .i64 v) rfl rfl (fun A hA => by rw [HVV.out]; exact iTb.at hA.2.2.2 s sg HST.out HSG.out.2)) hS (fun a' ha => ?_)
    simp only [zP1, zP2, zP3, zP4] at ha
    subst ha
    refine MixH.tks [false, false, false, false, false, false, false, false, false, false, false, true] 0 hS (fun K hK => ?_)
    simp only [Mix.pick]
    repeat (go_big_quiet_step (fail))
    refine wpQuiet_nil (hK _ ?_)
    clear hK K
    refine MixH.done (by kernel_rfl) ?_
    clear hS
    by_cases hv0 : v = 0
    · have HV0 : Hid (iT e.n.st (sgN x.pr fl) = 0) := by show _ = _; rw [HVE.out, hv0]
      subst hv0
      go_wp2_with (first | (refine wpList_build_tu0 rfl rfl ?_) | (refine wpList_store_tup (.tmp 6) (.tmp 36) rfl rfl O xz xz rfl rfl HS7.out.2.2.1 rfl ?_))
      intro w9 h9 k9
      go_wp2_with fail
      refine bodyPost_ret (results_tup_tmp rfl _ _ O _ rfl h9) rfl ?_
      have hS9 := HS7.out
      have k10 : Ch (TB t M N E) w w9 := (Ch.ofBelow hS9.2.2.2.1).trans (k9.mono (T := fun q => q = O) (fun _ _ h => h)) (fun q hq h => by have h' : q = O := h; have := HOB.out; omega)
      exact ⟨173, xz, E, rfl, .inr (.inr ⟨HCK.out, e, HAW.out, .inl ⟨HV0.out, rfl, rfl, rfl⟩⟩), hS9.1.ch k9 (fun q hq hq2 => by have h1 := hS9.1; have h2 := HH.out.1.tlt q hq; have h3 : q = O := hq2; have := HOB.out; omega), k10⟩
    · have qv : (v == 0) = false := by simpa using hv0
      have HV0 : Hid (iT e.n.st (sgN x.pr fl) ≠ 0) := by show _ ≠ _; rw [HVE.out]; exact hv0
      clear hv0
      have QT : Hid _ := turn_any t M N c E wS HS7.out.1 e HFS.out v
      go_wp2_with fail
      refine Calls.mono QT.out ?_
      rintro e2 w5 ⟨rfl, hTA5, k5, f5, hF5, hx5, hp5⟩
      have H5 : Hid (TA w5 t M N c (turnE c E e v) ∧ Ch (TB t M N E) wS w5 ∧ w5.rangeAt e.P 0 (tuC e.n.x).toList ∧ TupAt w5 O xz) := ⟨hTA5, k5, by rw [← hx5]; exact hF5.tup, HS7.out.2.2.1.ch k5 (fun q => by have h1 := HH.out.1.tlt O q; have := HOB.out; omega)⟩
      clear hTA5 k5 hF5 hx5 hp5 QT
      have QO : Hid _ := reverse_any e.n.x w5
      go_wp2_with (first | (refine wpList_mid_tup (.tmp 43) rfl e.P 0 e.n.x rfl H5.out.2.2.1 rfl ?_))
      refine Calls.mono QO.out ?_
      rintro e3 w6 ⟨rfl, b6⟩
      have H6 : Hid (TA w6 t M N c (turnE c E e v) ∧ Ch (TB t M N E) w w6 ∧ TupAt w6 O xz) := ⟨H5.out.1.below b6, ((Ch.ofBelow HS7.out.2.2.2.1).trans H5.out.2.1 (fun _ _ h => h)).trans (Ch.ofBelow (S := fun _ => False) b6) (fun _ _ h => h.elim), H5.out.2.2.2.below b6⟩
      clear b6 QO
      go_wp2_with (first | (refine wpList_store_tup (.tmp 6) (.tmp 45) rfl rfl O xz e.n.x.rev rfl rfl H6.out.2.2 rfl ?_))
      intro w9 h9 k9
      go_wp2_with fail
      refine bodyPost_ret (results_tup_tmp rfl _ _ O _ rfl h9) rfl ?_
      have k10 : Ch (TB t M N E) w w9 := H6.out.2.1.trans (k9.mono (T := fun q => q = O) (fun _ _ h => h)) (fun q hq h => by have h' : q = O := h; have := HOB.out; omega)
      have hTB : ∀ q, TB t M N (turnE c E e v) q → q < w.heap.size := fun q hq => by
       refine HH.out.1.tlt q ?_
       unfold turnE at hq
       split at hq
       · exact TB.gone q hq
       · exact TB.turned (e' := e.turn c v) (fF_mem HH.out.1.dj HFS.out (eqP_refl _)) rfl q hq
      exact ⟨0, e.n.x.rev, turnE c E e v, rfl, .inr (.inr ⟨HCK.out, e, HAW.out, .inr ⟨HV0.out, rfl, rfl, by rw [HVE.out]⟩⟩), H6.out.1.ch k9 (fun q hq hq2 => by have h2 := hTB q hq; have h3 : q = O := hq2; have := HOB.out; omega), k10⟩
 · have q0 : (ck != 0) = true := by simpa using h0
   have HC0 : Hid (ckE x ≠ 0) := by show _ ≠ _; rw [HCK.out]; exact h0
   clear h0
   go_wp2_with (first | (refine wpList_build_tu0 rfl rfl ?_) | (refine wpList_store_tup (.tmp 6) (.tmp 15) rfl rfl O xz xz rfl rfl H2.out.2.2.1 rfl ?_))
   intro w9 h9 k9
   go_wp2_with fail
   refine bodyPost_ret (results_tup_tmp rfl _ _ O _ rfl h9) rfl ?_
   have hS9 := H2.out
   have k10 : Ch (TB t M N E) w w9 := (Ch.ofBelow hS9.2.2.2).trans (k9.mono (T := fun q => q = O) (fun _ _ h => h)) (fun q hq h => by have h' : q = O := h; have := HOB.out; omega)
   exact ⟨ck, xz, E, rfl, .inl ⟨HC0.out, HCK.out.symm, rfl, rfl⟩, hS9.1.ch k9 (fun q hq hq2 => by have h1 := hS9.1; have h2 := HH.out.1.tlt q hq; have h3 : q = O := hq2; have := HOB.out; omega), k10⟩
end Go.Proofs.YtclpeepnngegaaaGreatDoor
namespace Go.Proofs.YtclpeepnngegaaaGreatDoor
open Go.RowKit Go.Maps
def tm (c : CF) (i : Nat) : Int := [c.sy, c.tc, c.fi, c.ud, c.ic].getD i 0
def tmC (c : CF) : Array Value := #[.int .i64 c.sy, .int .i64 c.tc, .int .i64 c.fi, .int .i64 c.ud, .int .i64 c.ic]
theorem index_t0 (c : CF) (w : World) : (Instr.index 94 (.agg (tmC c)) (.int .i64 ((0 : Nat) : Int))).run Tryz.prog w = .ok (.int .i64 (tm c 0)) w := by kernel_rfl
theorem index_t1 (c : CF) (w : World) : (Instr.index 94 (.agg (tmC c)) (.int .i64 ((1 : Nat) : Int))).run Tryz.prog w = .ok (.int .i64 (tm c 1)) w := by kernel_rfl
theorem index_t2 (c : CF) (w : World) : (Instr.index 94 (.agg (tmC c)) (.int .i64 ((2 : Nat) : Int))).run Tryz.prog w = .ok (.int .i64 (tm c 2)) w := by kernel_rfl
theorem index_t3 (c : CF) (w : World) : (Instr.index 94 (.agg (tmC c)) (.int .i64 ((3 : Nat) : Int))).run Tryz.prog w = .ok (.int .i64 (tm c 3)) w := by kernel_rfl
theorem index_t4 (c : CF) (w : World) : (Instr.index 94 (.agg (tmC c)) (.int .i64 ((4 : Nat) : Int))).run Tryz.prog w = .ok (.int .i64 (tm c 4)) w := by kernel_rfl
theorem index_t (c : CF) (w : World) (k : Nat) (hk : k < 5) : (Instr.index 94 (.agg (tmC c)) (.int .i64 (k : Int))).run Tryz.prog w = .ok (.int .i64 (tm c k)) w := by
 have : k = 0 ∨ k = 1 ∨ k = 2 ∨ k = 3 ∨ k = 4 := by omega
 clear hk
 rcases this with rfl | rfl | rfl | rfl | rfl
 · exact index_t0 c w
 · exact index_t1 c w
 · exact index_t2 c w
 · exact index_t3 c w
 · exact index_t4 c w
theorem wpList_index_t {ops : Array Oper} {rest : List Oper} {o : Oper} {a : Act} {w : World} {Q : Exit → Act → World → Prop} (x y : Operand) (ho : o.op = .index 94 x y) (c : CF) (k : Nat) (hk : k < 5) (hx : a.eval x = .agg (tmC c)) (hy : a.eval y = .int .i64 k)
 (hw : Region.wanted o (yielded ops a.tmps) = true) (hh : wpList Tryz.prog ops Q rest (a.put o.dst (.int .i64 (tm c k))) w) : wpList Tryz.prog ops Q (o :: rest) a w := by
 refine wpList_step fun K hK => ?_
 rw [if_pos hw]
 unfold Oper.wp execOp
 simp only [ho, hx, hy, Sem.run_bind, index_t c w k hk, Result.andThen_ok]
 exact hK _ _ hh
theorem run_build5 (c : CF) (w : World) : (Instr.build 94 #[(0, .int .i64 c.sy), (1, .int .i64 c.tc), (2, .int .i64 c.fi), (3, .int .i64 c.ud), (4, .int .i64 c.ic)]).run Tryz.prog w = .ok (.agg (tmC c)) w := by kernel_rfl
theorem wpList_build5 {ops : Array Oper} {rest : List Oper} {o : Oper} {a : Act} {w : World} {Q : Exit → Act → World → Prop} (y0 y1 y2 y3 y4 : Operand) (ho : o.op = .build 94 #[(0, y0), (1, y1), (2, y2), (3, y3), (4, y4)]) (c : CF) (h0 : a.eval y0 = .int .i64 c.sy) (h1 : a.eval y1 = .int .i64 c.tc) (h2 : a.eval y2 = .int .i64 c.fi) (h3 : a.eval y3 = .int .i64 c.ud) (h4 : a.eval y4 = .int .i64 c.ic) (hw : Region.wanted o (yielded ops a.tmps) = true)
 (h : wpList Tryz.prog ops Q rest (a.put o.dst (.agg (tmC c))) w) : wpList Tryz.prog ops Q (o :: rest) a w := by
 refine wpList_step fun K hK => ?_
 rw [if_pos hw]
 have hrun : (execOp a.eval o).run Tryz.prog w = .ok (.value (.agg (tmC c))) w := by
  obtain ⟨dst, op, type, pos, after, guard⟩ := o
  simp only at ho
  subst ho
  simp only [execOp, Sem.run_bind, List.map_toArray, List.map_cons, List.map_nil, h0, h1, h2, h3, h4, run_build5 c w, Result.andThen_ok]
  rfl
 unfold Oper.wp
 rw [hrun]
 exact hK _ _ h
theorem CfgAt.c0 {w : World} {O : Nat} {c : CF} (h : CfgAt w O c) : w.cell? ⟨O, 0, none⟩ = some (.int .i64 c.mx) := h.cell 0
theorem CfgAt.c1 {w : World} {O : Nat} {c : CF} (h : CfgAt w O c) : w.cell? ⟨O, 1, none⟩ = some (.int .i64 c.oV) := h.cell 1
theorem CfgAt.c18 {w : World} {O : Nat} {c : CF} (h : CfgAt w O c) : w.cell? ⟨O, 18, none⟩ = some (.int .i64 c.lo) := h.cell 18
theorem CfgAt.c19 {w : World} {O : Nat} {c : CF} (h : CfgAt w O c) : w.cell? ⟨O, 19, none⟩ = some (.int .i64 c.hi) := h.cell 19
def agB (c : CF) : Bool := inR c.sy 1 1048576 && inR c.tc 1 1048576 && inR c.fi 1 1048576 && inR c.ud 1 1048576 && inR c.ic 1 1048576
def cfB (c : CF) : Bool := agB c && (inR c.mx 1 4096 && c.oV == 4 && (clsA c.oV c.o == 7 || clsA c.oV c.o == 4) && decide (1 ≤ c.lo) && decide (c.lo ≤ c.hi) && decide (c.hi ≤ 65535))
theorem inR_iff {n lo hi : Int} : inR n lo hi = true ↔ lo ≤ n ∧ n ≤ hi := by unfold inR; simp
theorem cfB_ok {c : CF} (h : cfB c = true) (ho : ∀ i, i < 16 → c.o i < 256) : CfOk c := by
 unfold cfB agB at h
 simp only [Bool.and_eq_true, inR_iff, beq_iff_eq, decide_eq_true_eq] at h
 obtain ⟨⟨⟨⟨⟨h1, h2⟩, h3⟩, h4⟩, h5⟩, ⟨⟨⟨⟨h6, h7⟩, _⟩, h9⟩, h10⟩, h11⟩ := h
 exact ⟨h6, h7, ho, h9, h10, h11, h1, h2, h3, h4, h5⟩
theorem agB_all {c : CF} (h : ∀ j, j < 5 → inR (tm c j) 1 1048576 = true) : agB c = true := by
 unfold agB
 rw [show c.sy = tm c 0 from rfl, show c.tc = tm c 1 from rfl, show c.fi = tm c 2 from rfl, show c.ud = tm c 3 from rfl, show c.ic = tm c 4 from rfl, h 0 (by decide), h 1 (by decide), h 2 (by decide), h 3 (by decide), h 4 (by decide)]
 rfl
theorem agB_no {c : CF} {j : Nat} (hj : j < 5) (h : inR (tm c j) 1 1048576 = false) : agB c = false := by
 have : j = 0 ∨ j = 1 ∨ j = 2 ∨ j = 3 ∨ j = 4 := by omega
 clear hj
 unfold agB
 rcases this with rfl | rfl | rfl | rfl | rfl
 · rw [show c.sy = tm c 0 from rfl, h]; rfl
 · rw [show c.tc = tm c 1 from rfl, h]; simp
 · rw [show c.fi = tm c 2 from rfl, h]; simp
 · rw [show c.ud = tm c 3 from rfl, h]; simp
 · rw [show c.ic = tm c 4 from rfl, h]; simp
set_option maxHeartbeats 1600000 in
set_option maxRecDepth 100000 in
theorem mayBe_any (c : CF) (w : World) (ho : ∀ i, i < 16 → c.o i < 256) (hs : Spe8 w) : Calls Tryz.prog 23 #[.agg (cfC c)] w fun r w' => r = .returned (.bool (cfB c)) ∧ Below w.heap.size w w' := by
 have HC : Hid ((∀ i, i < 16 → c.o i < 256) ∧ Spe8 w) := ⟨ho, hs⟩
 clear ho hs
 obtain ⟨W, B, HSZX, HOX, HLX, HWX, hb⟩ := zBx w (cfC c) 26
 have HBX : Hid (CfgAt W B c) := hb
 obtain ⟨CX, hC⟩ : ∃ C, C = cfC c := ⟨_, rfl⟩
 rw [← hC] at HWX ⊢
 clear hb hC
 have c20 := HBX.out.c20
 have c21 := HBX.out.c21
 have c22 := HBX.out.c22
 have c23 := HBX.out.c23
 have c24 := HBX.out.c24
 go_enter Tryz.func23, Tryz.ntmps23
 go_upto_region 1 with fail
 rw [HOX.out, HWX.out]
 go_wp2_with (first | (refine wpList_build5 (.tmp 7) (.tmp 9) (.tmp 11) (.tmp 13) (.tmp 15) rfl c rfl rfl rfl rfl rfl rfl ?_))
 clear c20 c21 c22 c23 c24
 go_loopw [4, 17] (fun _ ix wr => ∃ i : Nat, ix = .int .i64 i ∧ i ≤ 5 ∧ Hid (wr = W ∧ ∀ j, j < i → inR (tm c j) 1 1048576 = true)) (fun _ ix _ => 5 - (intOf ix).toNat)
 case atStart => exact ⟨0, rfl, by omega, rfl, fun j h => by omega⟩
 case round =>
  obtain ⟨i, rfl, hi, HR⟩ := hrel
  obtain rfl := HR.out.1
  by_cases hlt : i < 5
  · have k1 : (i : Int) < 5 := by omega
    have k0 : (0 : Int) ≤ (i : Int) := by omega
    have k2 : ((i : Int)).toNat = i := by omega
    have wi : IntKind.i64.wrap ((i : Int) + 1) = (i : Int) + 1 := by rw [IntKind.wrap_i64]; omega
    have HI : Hid (i < 5) := hlt
    have QW : Hid _ := within_any (tm c i) 1 1048576 wr
    obtain ⟨b, hb⟩ : ∃ b, inR (tm c i) 1 1048576 = b := ⟨_, rfl⟩
    rw [hb] at QW
    have HBB : Hid (inR (tm c i) 1 1048576 = b) := hb
    clear hb hi hlt
    go_wp2_with (first | (refine wpList_index_t (.tmp 16) (.tmp 17) rfl c i HI.out rfl rfl rfl ?_))
    refine Calls.mono QW.out ?_
    rintro e1 w1 ⟨rfl, rfl⟩
    clear QW
    cases b with
    | false =>
     go_wp2_with fail
     go_ret
     exact ⟨by unfold cfB; rw [agB_no HI.out HBB.out]; rfl, HLX.out⟩
    | true =>
     go_wp2_with fail
     go_roundw
     case rel => exact ⟨i + 1, by first | rfl | go_num, by have := HI.out; omega, (by first | rfl | trivial), fun j h => by
      by_cases e : j = i
      · rw [e]; exact HBB.out
      · exact HR.out.2 j (by omega)⟩
     case measure => have := HI.out; first | (simp only [intOf]; omega) | go_num | omega
  · have k1 : ¬ (i : Int) < 5 := by omega
    have HAG : Hid (agB c = true) := agB_all (fun j hj => HR.out.2 j (by omega))
    have hi5 : i = 5 := by omega
    clear hi hlt HR
    subst hi5
    have QC : Hid _ := class_any c.oV c.o wr HC.out.1 (HC.out.2.old HLX.out)
    obtain ⟨kl, hkl⟩ : ∃ kl, clsA c.oV c.o = kl := ⟨_, rfl⟩
    rw [hkl] at QC
    go_wp2_with (first | (refine wpList_mid_ipr (.tmp 24) rfl B 1 c.oV c.o rfl HBX.out.out rfl ?_))
    refine Calls.mono QC.out ?_
    rintro e1 w1 ⟨rfl, b1⟩
    have H1 : Hid (CfgAt w1 B c ∧ Below w.heap.size w w1) := ⟨HBX.out.below b1, bthen HLX.out b1⟩
    clear b1 QC
    have c0 := H1.out.1.c0
    have c1 := H1.out.1.c1
    have c18 := H1.out.1.c18
    have c19 := H1.out.1.c19
    have QW : Hid _ := within_any c.mx 1 4096 w1
    obtain ⟨b1, hb1⟩ : ∃ b, inR c.mx 1 4096 = b := ⟨_, rfl⟩
    rw [hb1] at QW
    obtain ⟨b2, hb2⟩ : ∃ b, (c.oV == 4) = b := ⟨_, rfl⟩
    obtain ⟨b3, hb3⟩ : ∃ b, (kl == 7) = b := ⟨_, rfl⟩
    obtain ⟨b4, hb4⟩ : ∃ b, (kl == 4) = b := ⟨_, rfl⟩
    obtain ⟨b5, hb5⟩ : ∃ b, decide (1 ≤ c.lo) = b := ⟨_, rfl⟩
    obtain ⟨b6, hb6⟩ : ∃ b, decide (c.lo ≤ c.hi) = b := ⟨_, rfl⟩
    obtain ⟨b7, hb7⟩ : ∃ b, decide (c.hi ≤ 65535) = b := ⟨_, rfl⟩
    have HT : Hid (cfB c = (b1 && b2 && (b3 || b4) && b5 && b6 && b7)) := by show _ = _; unfold cfB; rw [HAG.out, hb1, hb2, hkl, hb3, hb4, hb5, hb6, hb7, Bool.true_and]
    clear hb1 hkl
    go_wp2_with fail
    refine Calls.mono QW.out ?_
    rintro e2 w2 ⟨rfl, rfl⟩
    clear QW
    cases b1 with
    | false =>
     go_wp2_with fail
     go_ret
     exact ⟨by rw [HT.out]; rfl, H1.out.2⟩
    | true =>
     cases b2 with
     | false =>
      go_wp2_with fail
      go_ret
      exact ⟨by rw [HT.out]; rfl, H1.out.2⟩
     | true =>
      cases b3 with
      | true =>
       cases b5 with
       | false =>
        go_wp2_with fail
        go_ret
        exact ⟨by rw [HT.out]; rfl, H1.out.2⟩
       | true =>
        cases b6 with
        | false =>
         go_wp2_with fail
         go_ret
         exact ⟨by rw [HT.out]; rfl, H1.out.2⟩
        | true =>
         go_wp2_with fail
         go_ret
         exact ⟨by rw [HT.out]; rfl, H1.out.2⟩
      | false =>
       cases b4 with
       | false =>
        go_wp2_with fail
        go_ret
        exact ⟨by rw [HT.out]; rfl, H1.out.2⟩
       | true =>
        cases b5 with
        | false =>
         go_wp2_with fail
         go_ret
         exact ⟨by rw [HT.out]; rfl, H1.out.2⟩
        | true =>
         cases b6 with
         | false =>
          go_wp2_with fail
          go_ret
          exact ⟨by rw [HT.out]; rfl, H1.out.2⟩
         | true =>
          go_wp2_with fail
          go_ret
          exact ⟨by rw [HT.out]; rfl, H1.out.2⟩
theorem run_buildtbl (c : CF) (M N : Nat) (w : World) : (Instr.build 70 #[(0, .agg (cfC c)), (1, .map (some M)), (2, .map (some N))]).run Tryz.prog w = .ok (.agg (tbC c M N)) w := by kernel_rfl
theorem wpList_build_tbl {ops : Array Oper} {rest : List Oper} {o : Oper} {a : Act} {w : World} {Q : Exit → Act → World → Prop} (x y z : Operand) (ho : o.op = .build 70 #[(0, x), (1, y), (2, z)]) (c : CF) (M N : Nat) (hx : a.eval x = .agg (cfC c)) (hy : a.eval y = .map (some M)) (hz : a.eval z = .map (some N)) (hw : Region.wanted o (yielded ops a.tmps) = true)
 (h : wpList Tryz.prog ops Q rest (a.put o.dst (.agg (tbC c M N))) w) : wpList Tryz.prog ops Q (o :: rest) a w := by
 refine wpList_step fun K hK => ?_
 rw [if_pos hw]
 have hrun : (execOp a.eval o).run Tryz.prog w = .ok (.value (.agg (tbC c M N))) w := by
  obtain ⟨dst, op, type, pos, after, guard⟩ := o
  simp only at ho
  subst ho
  simp only [execOp, Sem.run_bind, List.map_toArray, List.map_cons, List.map_nil, hx, hy, hz, run_buildtbl c M N w, Result.andThen_ok]
  rfl
 unfold Oper.wp
 rw [hrun]
 exact hK _ _ h
set_option maxHeartbeats 1600000 in
set_option maxRecDepth 100000 in
theorem new_any (c : CF) (w : World) (ho : ∀ i, i < 16 → c.o i < 256) (hs : Spe8 w) : Calls Tryz.prog 10 #[.agg (cfC c)] w fun e w' => Below w.heap.size w w' ∧ ((cfB c = true ∧ ∃ t M N, e = .returned (.tuple #[.pointer (some ⟨t, 0, none⟩), .int .i64 0]) ∧ TA w' t M N c [] ∧ w.heap.size ≤ t ∧ w.heap.size ≤ M ∧ w.heap.size ≤ N) ∨ (cfB c = false ∧ e = .returned (.tuple #[.pointer none, .int .i64 177]))) := by
 have hmm := @run_makeMap Tryz.prog
 have HC : Hid ((∀ i, i < 16 → c.o i < 256) ∧ Spe8 w) := ⟨ho, hs⟩
 clear ho hs
 obtain ⟨W, B, HSZX, HOX, HLX, HWX, hb⟩ := zBx w (cfC c) 26
 have HBX : Hid (CfgAt W B c) := hb
 obtain ⟨CX, hC⟩ : ∃ C, C = cfC c := ⟨_, rfl⟩
 rw [← hC] at HWX ⊢
 clear hb hC
 have QC : Hid _ := mayBe_any c W HC.out.1 (HC.out.2.old HLX.out)
 obtain ⟨b, hbb⟩ : ∃ b, cfB c = b := ⟨_, rfl⟩
 rw [hbb] at QC
 have HBB : Hid (cfB c = b) := hbb
 clear hbb
 go_enter Tryz.func10, Tryz.ntmps10
 go_upto_region 1 with fail
 rw [HOX.out, HWX.out]
 go_wp2_with (first | (refine wpList_load_cfg (.tmp 1) rfl B c rfl HBX.out rfl ?_))
 refine Calls.mono QC.out ?_
 rintro e w1 ⟨rfl, b1⟩
 have H1 : Hid (CfgAt w1 B c ∧ Below w.heap.size w w1) := ⟨HBX.out.below b1, bthen HLX.out b1⟩
 clear b1 QC
 cases b with
 | false =>
  go_wp2_with fail
  go_ret2
  exact ⟨H1.out.2, .inr ⟨HBB.out, rfl⟩⟩
 | true =>
  go_wp2_with (first | (refine wpList_load_cfg (.tmp 1) rfl B c rfl H1.out.1 rfl ?_) | (refine wpList_build_tbl (.tmp 7) (.tmp 8) (.tmp 9) rfl c w1.heap.size (w1.heap.size + 1) rfl rfl rfl rfl ?_))
  go_ret2
  obtain ⟨M, hM⟩ : ∃ M, M = w1.heap.size := ⟨_, rfl⟩
  obtain ⟨u1, hu1⟩ : ∃ u, u = w1.alloc (.map #[] 0) := ⟨_, rfl⟩
  obtain ⟨u2, hu2⟩ : ∃ u, u = u1.alloc (.map #[] 0) := ⟨_, rfl⟩
  obtain ⟨u3, hu3⟩ : ∃ u, u = u2.alloc (.cells (tbC c M (M + 1)) 70) := ⟨_, rfl⟩
  have s1 : u1.heap.size = M + 1 := by rw [hu1, World.size_alloc, hM]
  have s2 : u2.heap.size = M + 2 := by rw [hu2, World.size_alloc, s1]
  have hA : u3.ownsMap Tryz.prog 38 anyE M 0 (.map []) := by
   rw [hu3, hu2, hu1, hM]
   exact ((World.ownsMap_made w1 _ _ _).alloc _).alloc _
  have hB : u3.ownsMap Tryz.prog 102 anyE (M + 1) 0 (.map []) := by
   rw [hu3, hu2, ← s1]
   exact (World.ownsMap_made u1 _ _ _).alloc _
  have hT : TblAt u3 (M + 2) c M (M + 1) := by
   rw [hu3, ← s2]
   exact heap_alloc_new u2 _
  have b1 : Below w1.heap.size w1 u1 := by rw [hu1]; exact (Below.refl _ _).alloc (Nat.le_refl _) _
  have b2 : Below u1.heap.size u1 u2 := by rw [hu2]; exact (Below.refl _ _).alloc (Nat.le_refl _) _
  have b3 : Below u2.heap.size u2 u3 := by rw [hu3]; exact (Below.refl _ _).alloc (Nat.le_refl _) _
  have hsz := H1.out.2.size
  rw [← hM, ← hu1, ← hu2, ← hu3]
  refine ⟨bthen (bthen (bthen H1.out.2 b1) b2) b3, .inl ⟨HBB.out, M + 2, M, M + 1, by rw [← s2]; rfl, ⟨hT, ⟨.map [], hA, rfl, fun p l _ => ⟨rfl, rfl⟩, List.Pairwise.nil, (fun r hr => by cases hr), (fun l hl => by cases hl)⟩, ⟨.map [], hB, rfl, fun p l _ => ⟨rfl, rfl⟩, List.Pairwise.nil, (fun r hr => by cases hr), (fun l hl => by cases hl)⟩, (fun e he => by cases he), List.Pairwise.nil, by omega⟩, by omega, by omega, by omega⟩⟩
end Go.Proofs.YtclpeepnngegaaaGreatDoor
