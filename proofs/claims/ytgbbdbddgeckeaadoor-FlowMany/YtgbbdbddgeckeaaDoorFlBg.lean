/-
  Layer 17: begun.
-/
import Derived.Test.YtgbbdbddgeckeaaDoorFlH0
namespace Go.Proofs.YtgbbdbddgeckeaaDoor
open Go.RowKit Go.Maps

theorem out_new {c : CF} {E : List FV} {x : TU} {fl : Int} {B : Nat} {er : Int} {y : TU} {E' : List FV} {v po : Int} (h : OutR c E x fl B er y E') (h1 : ckE x = 0) (h2 : fF E x = none) (h3 : oT 0 (sgN x.pr fl) = v) (hv : v ≠ 0) (h4 : bgE c E x = 0) (h5 : fpO c E x = some po) : er = 0 ∧ y = ouT c ⟨x, po, 0, 0⟩ ∧ ∃ P, B ≤ P ∧ E' = E ++ [⟨⟨x, po, v, tkN c x.pr v⟩, P⟩] := by
  rcases h with ⟨h, _⟩ | ⟨_, e, hf, _⟩ | ⟨_, hn, ⟨h, _⟩ | ⟨_, h, _⟩ | ⟨_, _, he, po', P, hpo, hP, hy, hE⟩⟩
  · exact absurd h1 h
  · rw [h2] at hf; cases hf
  · rw [h3] at h; exact absurd h hv
  · exact absurd h4 h
  · rw [h5] at hpo
    obtain rfl := Option.some.inj hpo
    rw [h3] at hE
    exact ⟨he, hy, P, hP, hE⟩
theorem in_same {c : CF} {E : List FV} {x : TU} {fl : Int} {er : Int} {y : TU} {E' : List FV} {e : FV} {v : Int} (h : InR c E x fl er y E') (h1 : ckE x = 0) (h2 : awO c E x = some e) (h3 : iT e.n.st (sgN x.pr fl) = v) (hv : v ≠ 0) : er = 0 ∧ y = e.n.x.rev ∧ E' = turnE c E e v := by
  rcases h with ⟨h, _⟩ | ⟨_, h, _⟩ | ⟨_, e', hf, ⟨h, _⟩ | ⟨_, he, hy, hE⟩⟩
  · exact absurd h1 h
  · rw [h2] at h; cases h
  · rw [h2] at hf
    obtain rfl := Option.some.inj hf
    rw [h3] at h
    exact absurd h hv
  · rw [h2] at hf
    obtain rfl := Option.some.inj hf
    rw [h3] at hE
    exact ⟨he, hy, hE⟩
theorem wf_q4 (p : Int) (a b c d a' b' c' d' : Nat) (s r : Int) (hp : -9223372036854775808 ≤ p ∧ p ≤ 9223372036854775807) (hs : -9223372036854775808 ≤ s ∧ s ≤ 9223372036854775807) (hr : -9223372036854775808 ≤ r ∧ r ≤ 9223372036854775807) (ha : a < 256 ∧ b < 256 ∧ c < 256 ∧ d < 256) (ha' : a' < 256 ∧ b' < 256 ∧ c' < 256 ∧ d' < 256) : TU.Wf ⟨p, 4, q4 a b c d, 4, q4 a' b' c' d', s, r⟩ :=
  ⟨wf_i64 hp.1 hp.2, wf_i64 (n := 4) (by decide) (by decide), fun i _ => q4_lt ha.1 ha.2.1 ha.2.2.1 ha.2.2.2 i, wf_i64 (n := 4) (by decide) (by decide), fun i _ => q4_lt ha'.1 ha'.2.1 ha'.2.2.1 ha'.2.2.2 i, wf_i64 hs.1 hs.2, wf_i64 hr.1 hr.2⟩
def y0 : TU := ⟨17, 4, o0, 4, d0, 1000, 53⟩
theorem x0_wf : x0.Wf := wf_q4 17 10 0 0 1 198 51 100 7 5000 53 (by decide) (by decide) (by decide) (by decide) (by decide)
theorem y0_wf : y0.Wf := wf_q4 17 192 0 2 9 198 51 100 7 1000 53 (by decide) (by decide) (by decide) (by decide) (by decide)
theorem cf0_o : ∀ i, i < 16 → cf0.o i < 256 := fun i _ => q4_lt (by decide) (by decide) (by decide) (by decide) i
theorem cf0_b : cfB cf0 = true := by decide +kernel
theorem x0_ck : ckE x0 = 0 := by decide +kernel
theorem y0_ck : ckE y0.rev = 0 := by decide +kernel
theorem sg0 : sgN 17 0 = 6 := by decide +kernel
theorem oT06 : oT 0 6 = 7 := by decide
theorem iT76 : iT 7 6 = 7 := by decide
theorem bg0 : bgE cf0 [] x0 = 0 := by decide +kernel
theorem fp0 : fpO cf0 [] x0 = some 1000 := by decide +kernel
theorem ou0 : ouT cf0 ⟨x0, 1000, 0, 0⟩ = y0 := rfl
theorem tk0 : tkN cf0 17 7 = 4 := rfl
theorem fQ_one {e : FV} {p : PL} (h1 : isF e = true) (h2 : eqQ e.kq.p p = true) : fQ [e] p = some e := by
  unfold fQ
  simp [h1, h2]
theorem ou_y0 : eqP (ouT cf0 ⟨x0, 1000, 7, 4⟩) y0 = true := by decide +kernel
theorem aw0 (P : Nat) : awO cf0 [⟨⟨x0, 1000, 7, 4⟩, P⟩] y0.rev = some ⟨⟨x0, 1000, 7, 4⟩, P⟩ := by
  unfold awO
  rw [show (y0.rev.dV == 6) = false from rfl]
  show (fQ [⟨⟨x0, 1000, 7, 4⟩, P⟩] ⟨17, 1000⟩).bind _ = _
  rw [fQ_one (e := ⟨⟨x0, 1000, 7, 4⟩, P⟩) rfl rfl]
  show (if eqP (ouT cf0 ⟨x0, 1000, 7, 4⟩) y0 then some _ else none) = _
  rw [ou_y0]
  rfl
theorem turn0_len (c : CF) (e : FV) : (turnE c [e] e 7).length = 1 := rfl
set_option maxHeartbeats 1600000 in
set_option maxRecDepth 100000 in
theorem begun_any (w : World) (g : Gl w) : Calls Tryd.prog 9 #[] w fun r w' => r = .returned (.bool true) ∧ Below w.heap.size w w' := by
  have HG : Hid (Gl w) := g
  clear g
  have Q1 : Hid _ := config0_any w
  go_enter Tryd.func9, Tryd.ntmps9
  go_wp2_with fail
  refine Calls.mono Q1.out ?_
  rintro e1 w1 ⟨rfl, b1⟩
  have Q2 : Hid _ := ft_new cf0 w1 w cf0_o cf0_b HG.out b1
  clear Q1 b1
  go_wp2_with fail
  refine Calls.mono Q2.out ?_
  rintro e2 w2 ⟨t, M, N, rfl, hF2, _⟩
  have H2 : Hid (FT w t M N cf0 [] w2) := hF2
  clear hF2 Q2
  have Q3 : Hid _ := ask0_any w2
  go_wp2_with fail
  refine Calls.mono Q3.out ?_
  rintro e3 w3 ⟨rfl, b3⟩
  have Q4 : Hid _ := (H2.out.below b3).out HG.out x0 x0_wf 0
  clear Q3 b3 H2
  go_wp2_with fail
  refine Calls.mono Q4.out ?_
  rintro e4 w4 ⟨er, y, E', rfl, hR, hF4, _⟩
  obtain ⟨her, hy, P, hP, hE⟩ := out_new hR x0_ck rfl (v := 7) (by decide +kernel) (by decide) bg0 fp0
  subst her
  rw [ou0] at hy
  subst hy
  have H4 : Hid (FT w t M N cf0 [⟨⟨x0, 1000, 7, 4⟩, P⟩] w4) := by show FT w t M N cf0 _ w4; rw [hE] at hF4; exact hF4
  clear hR hF4 hP hE Q4
  obtain ⟨Y3, hY⟩ : ∃ Y, Y = w4.alloc (.cells (tuC xz) 34) := ⟨_, rfl⟩
  have bY : Below w4.heap.size w4 Y3 := by rw [hY]; exact (Below.refl _ _).alloc (Nat.le_refl _) _
  obtain ⟨O3, hO⟩ : ∃ O, O = w4.heap.size := ⟨_, rfl⟩
  have HNY : Hid (TupAt Y3 O3 xz) := by show TupAt Y3 O3 xz; rw [hY, hO]; exact tup_new w4 xz
  have HLY : Hid (Below w4.heap.size w4 Y3) := bY
  have HEY : Hid (w4.alloc (.cells (tuC xz) 34) = Y3) := hY.symm
  have HOY : Hid (w4.heap.size = O3) := hO.symm
  clear hY bY hO
  go_wp2_with (first | (refine wpList_alloc_tup rfl rfl ?_; rw [HEY.out, HOY.out]) | (refine wpList_store_tup (.tmp 3) (.tmp 21) rfl rfl O3 xz y0 rfl rfl HNY.out rfl ?_))
  intro w5 h5 k5
  have H5 : Hid (FT w t M N cf0 [⟨⟨x0, 1000, 7, 4⟩, P⟩] w5 ∧ TupAt w5 O3 y0) := by
    have b5 : Below w4.heap.size w4 w5 := HLY.out.trans (k5.below (fun q hq => by have hq' : q = O3 := hq; have := HOY.out; omega) HLY.out.size)
    exact ⟨H4.out.below b5, h5⟩
  clear h5 k5 H4 HNY HLY HEY HOY
  have Q6 : Hid _ := reverse_any y0 w5
  go_wp2_with (first | (refine wpList_load_tup (.tmp 3) rfl O3 y0 rfl H5.out.2 rfl ?_))
  refine Calls.mono Q6.out ?_
  rintro e6 w6 ⟨rfl, b6⟩
  have H6 : Hid (FT w t M N cf0 [⟨⟨x0, 1000, 7, 4⟩, P⟩] w6 ∧ TupAt w6 O3 y0) := ⟨H5.out.1.below b6, H5.out.2.below b6⟩
  clear b6 Q6 H5
  have Q7 : Hid _ := H6.out.1.inn HG.out y0.rev y0_wf.rev 0
  go_wp2_with fail
  refine Calls.mono Q7.out ?_
  rintro e7 w7 ⟨er, z, E', rfl, hR, hF7, k7⟩
  obtain ⟨her, hz, hE⟩ := in_same hR y0_ck (aw0 P) (v := 7) (show iT 7 (sgN 17 0) = 7 by decide +kernel) (by decide)
  subst her
  have hz' : z = x0.rev := hz
  subst hz'
  obtain ⟨E7, hE7⟩ : ∃ E7, E7 = E' := ⟨_, rfl⟩
  have H7 : Hid (FT w t M N cf0 E7 w7 ∧ TupAt w7 O3 y0 ∧ E7.length = 1) := by
    refine ⟨by rw [hE7]; exact hF7, H6.out.2.ch k7 (fun q => ?_), by rw [hE7, hE]; exact turn0_len _ _⟩
    rcases q with h | h | h | ⟨a, ha, h⟩
    · have h1 := H6.out.2; have h2 := H6.out.1.ta.cb; unfold TupAt at h1; unfold TblAt at h2; rw [h, h2] at h1; simp only [Option.some.injEq, Obj.cells.injEq] at h1; exact absurd h1.2.1 (by decide)
    · obtain ⟨D, hD⟩ := H6.out.1.ta.ma; obtain ⟨es, ck, hb⟩ := hD.blk; exact tup_ne H6.out.2 hb h
    · obtain ⟨D, hD⟩ := H6.out.1.ta.mb; obtain ⟨es, ck, hb⟩ := hD.blk; exact tup_ne H6.out.2 hb h
    · have h1 := H6.out.2; have h2 := H6.out.1.ta.en a ha; unfold TupAt at h1; unfold FloAt at h2; rw [h, h2] at h1; simp only [Option.some.injEq, Obj.cells.injEq] at h1; exact absurd h1.2.1 (by decide)
  clear hR hF7 k7 hE hz Q7 H6 hE7
  obtain ⟨Y4, hY⟩ : ∃ Y, Y = w7.alloc (.cells (tuC xz) 34) := ⟨_, rfl⟩
  have bY : Below w7.heap.size w7 Y4 := by rw [hY]; exact (Below.refl _ _).alloc (Nat.le_refl _) _
  obtain ⟨O4, hO⟩ : ∃ O, O = w7.heap.size := ⟨_, rfl⟩
  have HNY : Hid (TupAt Y4 O4 xz) := by show TupAt Y4 O4 xz; rw [hY, hO]; exact tup_new w7 xz
  have HLY : Hid (Below w7.heap.size w7 Y4) := bY
  have HEY : Hid (w7.alloc (.cells (tuC xz) 34) = Y4) := hY.symm
  have HOY : Hid (w7.heap.size = O4) := hO.symm
  clear hY bY hO
  go_wp2_with (first | (refine wpList_alloc_tup rfl rfl ?_; rw [HEY.out, HOY.out]) | (refine wpList_store_tup (.tmp 4) (.tmp 28) rfl rfl O4 xz x0.rev rfl rfl HNY.out rfl ?_))
  intro w8 h8 k8
  have H8 : Hid (TupAt w8 O3 y0 ∧ TupAt w8 O4 x0.rev ∧ FT w t M N cf0 E7 w8 ∧ E7.length = 1) := by
    have b8 : Below w7.heap.size w7 w8 := HLY.out.trans (k8.below (fun q hq => by have hq' : q = O4 := hq; have := HOY.out; omega) HLY.out.size)
    exact ⟨H7.out.2.1.below b8, h8, H7.out.1.below b8, H7.out.2.2⟩
  clear h8 k8 H7 HNY HLY HEY HOY
  go_upto_region 6 with fail
  refine MixH.start (fun A => TupAt A O3 y0 ∧ TupAt A O4 x0.rev ∧ FT w t M N cf0 E7 A) (by kernel_rfl) ?_
  obtain ⟨wA, hwA⟩ : ∃ wA, wA = w8.drew := ⟨_, rfl⟩
  have bdr : Below w8.heap.size w8 wA := by rw [hwA]; exact (Below.refl _ _).drew
  have hS : TupAt wA O3 y0 ∧ TupAt wA O4 x0.rev ∧ FT w t M N cf0 E7 wA := ⟨H8.out.1.below bdr, H8.out.2.1.below bdr, H8.out.2.2.1.below bdr⟩
  have HLN : Hid (E7.length = 1) := H8.out.2.2.2
  rw [← hwA]
  clear hwA bdr H8
  refine MixH.takes [true, true, true, true, true, true, true, true] 15 (by kernel_rfl) (by kernel_rfl) (by decide) (by kernel_rfl) hS (fun K hK => ?_)
  simp only [Mix.pick]
  repeat (go_big_quiet_step (fail))
  refine wpQuiet_nil (hK _ ?_)
  clear hK K
  refine MixH.take 14 8 _ (.int .i64 1000) rfl (by kernel_rfl) (by kernel_rfl) (by kernel_rfl) (by kernel_rfl) (yields_int (.tmp 37) rfl ⟨O3, 35, none⟩ (.int .i64 1000) rfl rfl (fun A hA => hA.1.c35)) hS (fun a' ha => ?_)
  simp only [Act.put, List.setIfInBounds_toArray, List.set_cons_succ, List.set_cons_zero] at ha
  subst ha
  refine MixH.takes [false, false, false, false, false, false, false, false, false, true, true, true] 11 (by kernel_rfl) (by kernel_rfl) (by decide) (by kernel_rfl) hS (fun K hK => ?_)
  simp only [Mix.pick]
  repeat (go_big_quiet_step (fail))
  refine wpQuiet_nil (hK _ ?_)
  clear hK K
  refine MixH.take 10 12 _ (.agg (tuC x0.rev)) rfl (by kernel_rfl) (by kernel_rfl) (by kernel_rfl) (by kernel_rfl) (yields_tup (.tmp 4) rfl O4 0 x0.rev rfl rfl (fun A hA => hA.2.1.all)) hS (fun a' ha => ?_)
  simp only [Act.put, List.setIfInBounds_toArray, List.set_cons_succ, List.set_cons_zero] at ha
  subst ha
  refine MixH.one [false, false, false, false, false, false, false, false, false, false, false, false, false, true] 9 13 _ rfl rfl (by kernel_rfl) (by kernel_rfl) (fun K hK => ?_)
  simp only [Mix.pick]
  go_wp2_with fail
  refine Calls.mono (ask0_any wA) ?_
  rintro e9 w9 ⟨rfl, b9⟩
  replace hS : TupAt w9 O3 y0 ∧ TupAt w9 O4 x0.rev ∧ FT w t M N cf0 E7 w9 := ⟨hS.1.below b9, hS.2.1.below b9, hS.2.2.below b9⟩
  clear b9
  go_wp2_with fail
  refine ⟨rfl, hK _ _ hS ?_⟩
  clear hK K
  refine MixH.one [false, false, false, false, false, false, false, false, false, false, false, false, false, false, true] 8 14 _ rfl rfl (by kernel_rfl) (by kernel_rfl) (fun K hK => ?_)
  simp only [Mix.pick]
  go_wp2_with fail
  refine Calls.mono (reverse_any x0 w9) ?_
  rintro e10 w10 ⟨rfl, b10⟩
  replace hS : TupAt w10 O3 y0 ∧ TupAt w10 O4 x0.rev ∧ FT w t M N cf0 E7 w10 := ⟨hS.1.below b10, hS.2.1.below b10, hS.2.2.below b10⟩
  clear b10
  go_wp2_with fail
  refine ⟨rfl, hK _ _ hS ?_⟩
  clear hK K
  refine MixH.take 7 15 _ (.bool true) rfl (by kernel_rfl) (by kernel_rfl) (by kernel_rfl) (by kernel_rfl) (yields_eql_tu (.tmp 42) (.tmp 44) rfl x0.rev x0.rev rfl rfl true (eqP_refl _) rfl) hS (fun a' ha => ?_)
  simp only [Act.put, List.setIfInBounds_toArray, List.set_cons_succ, List.set_cons_zero] at ha
  subst ha
  refine MixH.takes [false, false, false, false, false, false, false, false, false, false, false, false, false, false, false, false, true, true, true] 4 (by kernel_rfl) (by kernel_rfl) (by decide) (by kernel_rfl) hS (fun K hK => ?_)
  simp only [Mix.pick]
  repeat (go_big_quiet_step (fail))
  refine wpQuiet_nil (hK _ ?_)
  clear hK K
  refine MixH.one [false, false, false, false, false, false, false, false, false, false, false, false, false, false, false, false, false, false, false, true] 3 19 _ rfl rfl (by kernel_rfl) (by kernel_rfl) (fun K hK => ?_)
  simp only [Mix.pick]
  go_wp2_with fail
  refine Calls.mono hS.2.2.lens ?_
  rintro e11 w11 ⟨rfl, rfl⟩
  rw [HLN.out]
  go_wp2_with fail
  refine ⟨rfl, hK _ _ hS ?_⟩
  clear hK K
  refine MixH.takes [false, false, false, false, false, false, false, false, false, false, false, false, false, false, false, false, false, false, false, false, true, true, true] 0 (by kernel_rfl) (by kernel_rfl) (by decide) (by kernel_rfl) hS (fun K hK => ?_)
  simp only [Mix.pick]
  repeat (go_big_quiet_step (fail))
  refine wpQuiet_nil (hK _ ?_)
  clear hK K
  refine MixH.done (by kernel_rfl) ?_
  have HE : Hid (Below w.heap.size w w10) := hS.2.2.bel
  clear hS
  go_wp2_with fail
  go_ret
  exact ⟨rfl, HE.out⟩
end Go.Proofs.YtgbbdbddgeckeaaDoor
