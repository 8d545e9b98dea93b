/-
  The walk of L4Clamped: behind Clamp of a SYN no option tells more; nothing else is another.
-/
import Derived.Test.YtmeieggnfmhnmaaDoorL9Uni
import Derived.Test.YtmeieggnfmhnmaaDoorL9ClP
namespace Go.Proofs.YtmeieggnfmhnmaaDoor
open Go.RowKit
open L4 (U9 T9)

theorem ClS.all {w wr : World} {os ps : List OpV} {syn : Bool} {m G k : Nat} (h : ClS w os syn m G k ps wr) (hk : os.length = k) : vals ps = (vals os).map (L4.clO syn m) := by
  rw [h.vs, List.take_of_length_le (by simp [vals, hk])]
theorem ClS.small {w wr : World} {os ps : List OpV} {syn : Bool} {m G k : Nat} (h : ClS w os syn m G k ps wr) (hk : os.length = k) (hs : ∀ o ∈ os, o.d.length ≤ 1048576) : ∀ o ∈ ps, o.d.length ≤ 1048576 := by
  intro p hp
  have e : p.val ∈ vals ps := List.mem_map_of_mem hp
  rw [h.all hk] at e
  obtain ⟨q, hq, e2⟩ := List.mem_map.1 e
  obtain ⟨o, ho, rfl⟩ := List.mem_map.1 hq
  have := (L4.clO_kind syn m o.val).2
  have h3 := hs o ho
  have e3 : p.d = (L4.clO syn m o.val).2 := congrArg Prod.snd e2.symm
  rw [e3, this]
  exact h3
/-- the same cells, the options' values put in -/
def wOs (t : T9) (os : List OpV) : T9 := { t with os := vals os }
theorem TOk.with {w : World} {t : T9} {la : Option Addr} {ln : Nat} {os : List OpV} {da : Option Addr} {n c : Nat} (d : DOk w t.d da n c) (hl : os.length = ln) (ho : OptsAt w la os) (hn : ln ≤ 1048576) : TOk w (wOs t os) la ln os da n c := ⟨rfl, hl, ho, by omega, d⟩
set_option maxHeartbeats 12800000 in
set_option maxRecDepth 100000 in
theorem l4Clamped.walk (w : World) (hT : Tabs w) (t : T9) (la : Option Addr) (ln lc : Nat) (os : List OpV) (da : Option Addr) (n c : Nat) (k : TOk w t la ln os da n c) (s : ln ≤ 1048576 ∧ (∀ o ∈ os, o.d.length ≤ 1048576) ∧ n ≤ 1048576) (most : Int) :
    Calls Tryd.prog 5 #[.agg (tC t la ln lc da n c), .int .i64 most] w fun e w' => e = .returned (.bool true) ∧ Below w.heap.size w w' := by
  obtain ⟨M0, hM0⟩ : ∃ M0, M0 = tC t la ln lc da n c := ⟨_, rfl⟩
  have hr := tAt_new w t la ln lc da n c
  have bel : Below w.heap.size w (w.alloc (.cells M0 39)) := (Below.refl _ _).alloc (Nat.le_refl _) _
  rw [← hM0] at hr ⊢
  obtain ⟨W, hW⟩ : ∃ W, W = w.alloc (.cells M0 39) := ⟨_, rfl⟩
  rw [← hW] at hr bel
  obtain ⟨B, hB⟩ : ∃ B, B = w.heap.size := ⟨_, rfl⟩
  rw [← hB] at hr
  have HB : Hid (w.heap.size = B) := hB.symm
  have HW : Hid (w.alloc (.cells M0 39) = W) := hW.symm
  have HRW : Hid (TAt W B t la ln lc da n c) := hr
  have HK : Hid (TOk w t la ln os da n c) := k
  have HS : Hid (∀ o ∈ os, o.d.length ≤ 1048576) := s.2.1
  have HLN : Hid (ln ≤ 1048576) := s.1
  have HT : Hid (∀ A, Below w.heap.size w A → Tabs A) := fun A hA => hT.old hA
  have QS : Hid _ := started_any W (HT.out W bel)
  clear k hT s hM0 hW hB hr
  go_enter Tryd.func5, Tryd.ntmps5
  go_upto_region 1 with fail
  rw [HB.out, HW.out]
  go_wp2_with fail
  refine Calls.mono QS.out ?_
  rintro e w1 ⟨rfl, hb1⟩
  have bel1 := bthen bel hb1
  have HR1 : Hid (TAt w1 B t la ln lc da n c) := HRW.out.below hb1
  clear QS hb1 HRW HW HB
  have QC : Hid _ := clamp_any t la ln lc os da n c most w1 HK.out.ol (HK.out.old bel1).oat HLN.out HS.out
  go_wp2_with (first | (refine wpList_load_t9 (.tmp 2) rfl B t la ln lc da n c rfl HR1.out rfl ?_))
  refine Calls.mono QC.out ?_
  rintro e w2 ⟨G, ps, rfl, hcl⟩
  have hb2 := hcl.bel
  have HPV : Hid (vals ps = (vals os).map (L4.clO (synB t.fl) most.toNat)) := hcl.all HK.out.ol
  have HPS : Hid (∀ o ∈ ps, o.d.length ≤ 1048576) := hcl.small HK.out.ol HS.out
  have HPL : Hid (ps.length = ln) := hcl.pl
  have HPO2 : Hid (OptsAt w2 (some ⟨G, 0, none⟩) ps) := hcl.opts
  clear hcl QC
  have bel2 := bthen bel1 hb2
  have HR2 : Hid (TAt w2 B t la ln lc da n c) := TAt.below HR1.out hb2
  clear HR1
  clear hb2
  have hl3 : Below w2.heap.size w2 (w2.alloc (.cells (tC t (some ⟨G, 0, none⟩) ln ln da n c) 39)) := (Below.refl _ _).alloc (Nat.le_refl _) _
  have un3 := tAt_new w2 t (some ⟨G, 0, none⟩) ln ln da n c
  obtain ⟨w3, hw3⟩ : ∃ w3, w3 = w2.alloc (.cells (tC t (some ⟨G, 0, none⟩) ln ln da n c) 39) := ⟨_, rfl⟩
  rw [← hw3] at hl3 un3
  have HW3 : Hid (w2.alloc (.cells #[.int .i64 t.sp, .int .i64 t.dp, .int .i64 t.sq, .int .i64 t.ak, .int .i64 t.fl, .int .i64 t.wi, .int .i64 t.ur, .slice (some ⟨G, 0, none⟩) ln ln, .slice da n c] 39) = w3) := hw3.symm
  obtain ⟨OC, hOC⟩ : ∃ OC, OC = w2.heap.size := ⟨_, rfl⟩
  rw [← hOC] at un3
  have HOC3 : Hid (TAt w3 OC t (some ⟨G, 0, none⟩) ln ln da n c) := un3
  have HVs3 : Hid (w2.heap.size = OC) := hOC.symm
  have bel3 := bthen bel2 hl3
  have HR3 : Hid (TAt w3 B t la ln lc da n c) := TAt.below HR2.out hl3
  have HPO3 : Hid (OptsAt w3 (some ⟨G, 0, none⟩) ps) := OptsAt.old HPO2.out hl3
  clear HR2 HPO2
  clear hl3 un3 hw3 hOC
  rw [show tC t (some ⟨G, 0, none⟩) ln ln da n c = #[.int .i64 t.sp, .int .i64 t.dp, .int .i64 t.sq, .int .i64 t.ak, .int .i64 t.fl, .int .i64 t.wi, .int .i64 t.ur, .slice (some ⟨G, 0, none⟩) ln ln, .slice da n c] from rfl]
  go_upto_region 3 with fail
  rw [HVs3.out, HW3.out]
  clear HVs3 HW3
  have QM : Hid _ := mss_any t (some ⟨G, 0, none⟩) ln ln ps da n c w3 HPL.out HPO3.out (by have := HLN.out; omega)
  rw [HPV.out] at QM
  obtain ⟨N1, hN1⟩ : ∃ N1, N1 = (L4.mss ((vals os).map (L4.clO (synB t.fl) most.toNat))).1 := ⟨_, rfl⟩
  obtain ⟨S0, hS0⟩ : ∃ S0, S0 = (L4.mss (vals os)).2 := ⟨_, rfl⟩
  obtain ⟨N0, hN0⟩ : ∃ N0, N0 = (L4.mss (vals os)).1 := ⟨_, rfl⟩
  have hb256 : ∀ o ∈ vals os, ∀ z ∈ o.2, z < 256 := opts_256 HK.out.oat
  have hN : N1 = if synB t.fl then (if most.toNat < N0 then most.toNat else N0) else N0 := by
    rw [hN1, hN0]
    cases synB t.fl with
    | true => rw [if_pos rfl]; exact L4.mss_cl _ _ hb256
    | false => rw [if_neg (by simp), L4.mss_id]
  rw [L4.mss_is, ← hN1, ← hS0] at QM
  have HNN : Hid (N1 = if synB t.fl then (if most.toNat < N0 then most.toNat else N0) else N0) := hN
  have H256 : Hid (∀ o ∈ vals os, ∀ z ∈ o.2, z < 256) := hb256
  clear hN hN1 hb256
  go_wp2_with (first | (refine wpList_load_t9 (.tmp 6) rfl OC t (some ⟨G, 0, none⟩) ln ln da n c rfl HOC3.out rfl ?_))
  refine Calls.mono QM.out ?_
  rintro e w4 ⟨rfl, hb4⟩
  clear QM
  have bel4 := bthen bel3 hb4
  have HR4 : Hid (TAt w4 B t la ln lc da n c) := TAt.below HR3.out hb4
  have HPO4 : Hid (OptsAt w4 (some ⟨G, 0, none⟩) ps) := OptsAt.old HPO3.out hb4
  have HOC4 : Hid (TAt w4 OC t (some ⟨G, 0, none⟩) ln ln da n c) := TAt.below HOC3.out hb4
  clear HR3 HPO3 HOC3
  clear hb4
  have QM : Hid _ := mss_any t la ln lc os da n c w4 HK.out.ol (HK.out.old bel4).oat (by have := HLN.out; omega)
  rw [← hN0, ← hS0] at QM
  clear hN0 hS0
  go_wp2_with (first | (refine wpList_load_t9 (.tmp 2) rfl B t la ln lc da n c rfl HR4.out rfl ?_))
  refine Calls.mono QM.out ?_
  rintro e w5 ⟨rfl, hb5⟩
  clear QM
  have bel5 := bthen bel4 hb5
  have HR5 : Hid (TAt w5 B t la ln lc da n c) := TAt.below HR4.out hb5
  have HPO5 : Hid (OptsAt w5 (some ⟨G, 0, none⟩) ps) := OptsAt.old HPO4.out hb5
  have HOC5 : Hid (TAt w5 OC t (some ⟨G, 0, none⟩) ln ln da n c) := TAt.below HOC4.out hb5
  clear HR4 HPO4 HOC4
  clear hb5
  have a7 := HOC5.out.c7
  have a4 := HOC5.out.c4
  have r7 := HR5.out.c7
  have r4 := HR5.out.c4
  obtain ⟨ff, hff⟩ : ∃ ff, ff = bits .and .i64 t.fl 2 := ⟨_, rfl⟩
  have hff2 : bits .and .i64 t.fl 2 = ff := hff.symm
  have hsy : synB t.fl = (ff != 0) := by rw [hff]; rfl
  rw [hsy] at HNN
  have HSY : Hid (synB t.fl = (ff != 0)) := hsy
  clear hsy hff
  by_cases hq : ff = 0 ∨ (N0 : Int) ≤ most
  case pos =>
    have he : N1 = N0 := by
      have h := HNN.out
      by_cases hf : ff = 0
      · rw [hf] at h
        simpa using h
      · have hm := hq.resolve_left hf
        rw [h]
        split
        · rw [if_neg (by omega)]
        · rfl
    have HE : Hid (N1 = N0) := he
    have eN : ((N1 : Int) == (N0 : Int)) = true := by rw [beq_iff_eq, he]
    clear he
    by_cases hf : ff = 0
    · subst hf
      clear hq
      go_wp2
      go_ret
      exact ⟨rfl, bel5⟩
    · have hm := hq.resolve_left hf
      have bf : (ff == 0) = false := by rw [beq_eq_false_iff_ne]; exact hf
      clear hq hf
      go_wp2
      go_ret
      exact ⟨rfl, bel5⟩
  have hf : ff ≠ 0 := fun h => hq (.inl h)
  have hm : most < (N0 : Int) := by have : ¬ (N0 : Int) ≤ most := fun h => hq (.inr h); omega
  have bf : (ff == 0) = false := by rw [beq_eq_false_iff_ne]; exact hf
  have hNm : N1 = most.toNat := by
    have h := HNN.out
    rw [if_pos (by simpa using hf)] at h
    rw [h]
    split <;> omega
  clear hq hf
  by_cases hneg : most < 0
  · have HMO : Hid ((0 : Int).toNat = most.toNat) := by show _ = _; omega
    obtain ⟨mo, hmo⟩ : ∃ mo : Int, mo = 0 := ⟨_, rfl⟩
    rw [← hmo] at HMO
    have eN : ((N1 : Int) == mo) = true := by rw [beq_iff_eq, hmo, hNm]; omega
    have HN0 : Hid ((0 : Int) = mo) := hmo.symm
    clear hmo hNm hm HNN
    go_upto_region 11 with fail
    rw [HN0.out]
    clear HN0
    have QC : Hid _ := clamp_any t (some ⟨G, 0, none⟩) ln ln ps da n c mo w5 HPL.out HPO5.out HLN.out HPS.out
    go_wp2_with (first | (refine wpList_load_t9 (.tmp 6) rfl OC t (some ⟨G, 0, none⟩) ln ln da n c rfl HOC5.out rfl ?_))
    refine Calls.mono QC.out ?_
    rintro e w6 ⟨G2, qs, rfl, hcl⟩
    have hb6 := hcl.bel
    have hqv : vals qs = vals ps := by
      rw [hcl.all HPL.out, HPV.out, HMO.out, List.map_map]
      refine List.map_congr_left (fun o ho => ?_)
      exact L4.clO_idem _ _ o (H256.out o ho)
    have HQV : Hid (vals qs = vals ps) := hqv
    have HQL : Hid (qs.length = ln) := hcl.pl
    have HQO6 : Hid (OptsAt w6 (some ⟨G2, 0, none⟩) qs) := hcl.opts
    clear hcl QC hqv
    have bel6 := bthen bel5 hb6
    have HR6 : Hid (TAt w6 B t la ln lc da n c) := TAt.below HR5.out hb6
    have HPO6 : Hid (OptsAt w6 (some ⟨G, 0, none⟩) ps) := OptsAt.old HPO5.out hb6
    have HOC6 : Hid (TAt w6 OC t (some ⟨G, 0, none⟩) ln ln da n c) := TAt.below HOC5.out hb6
    clear HR5 HPO5 HOC5
    clear hb6
    have hl7 : Below w6.heap.size w6 (w6.alloc (.cells (tC t (some ⟨G2, 0, none⟩) ln ln da n c) 39)) := (Below.refl _ _).alloc (Nat.le_refl _) _
    have un7 := tAt_new w6 t (some ⟨G2, 0, none⟩) ln ln da n c
    obtain ⟨w7, hw7⟩ : ∃ w7, w7 = w6.alloc (.cells (tC t (some ⟨G2, 0, none⟩) ln ln da n c) 39) := ⟨_, rfl⟩
    rw [← hw7] at hl7 un7
    have HW7 : Hid (w6.alloc (.cells #[.int .i64 t.sp, .int .i64 t.dp, .int .i64 t.sq, .int .i64 t.ak, .int .i64 t.fl, .int .i64 t.wi, .int .i64 t.ur, .slice (some ⟨G2, 0, none⟩) ln ln, .slice da n c] 39) = w7) := hw7.symm
    obtain ⟨OD, hOD⟩ : ∃ OD, OD = w6.heap.size := ⟨_, rfl⟩
    rw [← hOD] at un7
    have HOD7 : Hid (TAt w7 OD t (some ⟨G2, 0, none⟩) ln ln da n c) := un7
    have HVs7 : Hid (w6.heap.size = OD) := hOD.symm
    have bel7 := bthen bel6 hl7
    have HR7 : Hid (TAt w7 B t la ln lc da n c) := TAt.below HR6.out hl7
    have HPO7 : Hid (OptsAt w7 (some ⟨G, 0, none⟩) ps) := OptsAt.old HPO6.out hl7
    have HOC7 : Hid (TAt w7 OC t (some ⟨G, 0, none⟩) ln ln da n c) := TAt.below HOC6.out hl7
    have HQO7 : Hid (OptsAt w7 (some ⟨G2, 0, none⟩) qs) := OptsAt.old HQO6.out hl7
    clear HR6 HPO6 HOC6 HQO6
    clear hl7 un7 hw7 hOD
    rw [show tC t (some ⟨G2, 0, none⟩) ln ln da n c = #[.int .i64 t.sp, .int .i64 t.dp, .int .i64 t.sq, .int .i64 t.ak, .int .i64 t.fl, .int .i64 t.wi, .int .i64 t.ur, .slice (some ⟨G2, 0, none⟩) ln ln, .slice da n c] from rfl]
    go_upto_region 12 with fail
    rw [HVs7.out, HW7.out]
    clear HVs7 HW7
    have HSM : Hid (∀ A, Below w7.heap.size w7 A → Calls Tryd.prog 17 #[.agg (tC t (some ⟨G2, 0, none⟩) ln ln da n c), .agg (tC t (some ⟨G, 0, none⟩) ln ln da n c)] A fun e w' => e = .returned (.bool true) ∧ Below A.heap.size A w') := by
      intro A hA
      have hd := (HK.out.old (bthen bel7 hA)).d
      exact sameT_true t (some ⟨G2, 0, none⟩) (some ⟨G, 0, none⟩) ln ln ln qs ps da da n c c A (OptsAt.old HQO7.out hA) (OptsAt.old HPO7.out hA) HQL.out HQV.out (by have := HLN.out; omega) hd hd
    have HCC : Hid (∀ A, Below w7.heap.size w7 A → Calls Tryd.prog 21 #[.agg (tC t (some ⟨G, 0, none⟩) ln ln da n c)] A fun e w' => e = .returned (.int .i64 ((L4.tChk t : Nat) : Int)) ∧ Below A.heap.size A w') := by
      intro A hA
      have hd := (HK.out.old (bthen bel7 hA)).d
      have h := chkT_any (wOs t ps) (some ⟨G, 0, none⟩) ln ln ps da n c A (HT.out A (bthen bel7 hA)).l (TOk.with hd HPL.out (OptsAt.old HPO7.out hA) HLN.out)
      have e : L4.tChk (wOs t ps) = L4.tChk t := by
        have e2 := L4.cl_chk (synB t.fl) most.toNat t
        rw [← HK.out.ov, ← HPV.out] at e2
        have e3 : ({ t with os := vals ps } : T9) = wOs t ps := rfl
        rw [e3] at e2
        exact e2
      rw [e] at h
      exact h
    have HCT : Hid (∀ A, Below w7.heap.size w7 A → Calls Tryd.prog 21 #[.agg (tC t la ln lc da n c)] A fun e w' => e = .returned (.int .i64 ((L4.tChk t : Nat) : Int)) ∧ Below A.heap.size A w') := by
      intro A hA
      exact chkT_any t la ln lc os da n c A (HT.out A (bthen bel7 hA)).l (HK.out.old (bthen bel7 hA))
    obtain ⟨E, hE⟩ : ∃ E, E = L4.tChk t := ⟨_, rfl⟩
    rw [← hE] at HCC HCT
    clear hE
    refine MixH.start (fun A => Below w7.heap.size w7 A) (by kernel_rfl) ?_
    obtain ⟨wA, hwA⟩ : ∃ wA, wA = w7.drew := ⟨_, rfl⟩
    have hS : Below w7.heap.size w7 wA := by rw [hwA]; exact (Below.refl _ _).drew
    rw [← hwA]
    clear hwA
    refine MixH.takes [true, true, true, true] 14 (by kernel_rfl) (by kernel_rfl) (by decide) (by kernel_rfl) hS (fun K hK => ?_)
    simp only [Mix.pick]
    repeat (go_big_quiet_step (fail))
    refine wpQuiet_nil (hK _ ?_)
    clear hK K
    refine MixH.take 13 4 _ (.agg (tC t (some ⟨G2, 0, none⟩) ln ln da n c)) rfl (by kernel_rfl) (by kernel_rfl) (by kernel_rfl) (by kernel_rfl) (yields_t9 (.tmp 11) rfl OD t (some ⟨G2, 0, none⟩) ln ln da n c rfl rfl (fun A hA => TAt.below HOD7.out hA)) hS (fun a' ha => ?_)
    simp only [Act.put, List.setIfInBounds_toArray, List.set_cons_succ, List.set_cons_zero] at ha
    subst ha
    refine MixH.take 12 5 _ (.agg (tC t (some ⟨G, 0, none⟩) ln ln da n c)) rfl (by kernel_rfl) (by kernel_rfl) (by kernel_rfl) (by kernel_rfl) (yields_t9 (.tmp 6) rfl OC t (some ⟨G, 0, none⟩) ln ln da n c rfl rfl (fun A hA => TAt.below HOC7.out hA)) hS (fun a' ha => ?_)
    simp only [Act.put, List.setIfInBounds_toArray, List.set_cons_succ, List.set_cons_zero] at ha
    subst ha
    refine MixH.one [false, false, false, false, false, false, true] 11 6 _ rfl rfl (by kernel_rfl) (by kernel_rfl) (fun K hK => ?_)
    simp only [Mix.pick]
    go_wp2_with fail
    refine Calls.mono (HSM.out _ hS) ?_
    rintro e wx1 ⟨rfl, hbx1⟩
    have hS1 : Below w7.heap.size w7 wx1 := bthen hS hbx1
    clear hS hbx1
    go_wp2
    refine ⟨rfl, hK _ _ hS1 ?_⟩
    clear hK K
    refine MixH.takes [false, false, false, false, false, false, false, true, true] 9 (by kernel_rfl) (by kernel_rfl) (by decide) (by kernel_rfl) hS1 (fun K hK => ?_)
    simp only [Mix.pick]
    repeat (go_big_quiet_step (fail))
    refine wpQuiet_nil (hK _ ?_)
    clear hK K
    refine MixH.take 8 9 _ (.agg (tC t (some ⟨G, 0, none⟩) ln ln da n c)) rfl (by kernel_rfl) (by kernel_rfl) (by kernel_rfl) (by kernel_rfl) (yields_t9 (.tmp 6) rfl OC t (some ⟨G, 0, none⟩) ln ln da n c rfl rfl (fun A hA => TAt.below HOC7.out hA)) hS1 (fun a' ha => ?_)
    simp only [Act.put, List.setIfInBounds_toArray, List.set_cons_succ, List.set_cons_zero] at ha
    subst ha
    refine MixH.take 7 12 _ (.agg (tC t la ln lc da n c)) rfl (by kernel_rfl) (by kernel_rfl) (by kernel_rfl) (by kernel_rfl) (yields_t9 (.tmp 2) rfl B t la ln lc da n c rfl rfl (fun A hA => TAt.below HR7.out hA)) hS1 (fun a' ha => ?_)
    simp only [Act.put, List.setIfInBounds_toArray, List.set_cons_succ, List.set_cons_zero] at ha
    subst ha
    refine MixH.one [false, false, false, false, false, false, false, false, false, false, true] 6 10 _ rfl rfl (by kernel_rfl) (by kernel_rfl) (fun K hK => ?_)
    simp only [Mix.pick]
    go_wp2_with fail
    refine Calls.mono (HCC.out _ hS1) ?_
    rintro e wx2 ⟨rfl, hbx2⟩
    have hS2 : Below w7.heap.size w7 wx2 := bthen hS1 hbx2
    clear hS1 hbx2
    go_wp2
    refine ⟨rfl, hK _ _ hS2 ?_⟩
    clear hK K
    refine MixH.one [false, false, false, false, false, false, false, false, false, false, false, true] 5 11 _ rfl rfl (by kernel_rfl) (by kernel_rfl) (fun K hK => ?_)
    simp only [Mix.pick]
    go_wp2_with fail
    refine Calls.mono (num9_any (E : Int) _) ?_
    rintro e wn ⟨rfl, rfl⟩
    go_wp2
    refine ⟨rfl, hK _ _ hS2 ?_⟩
    clear hK K
    refine MixH.one [false, false, false, false, false, false, false, false, false, false, false, false, false, true] 4 13 _ rfl rfl (by kernel_rfl) (by kernel_rfl) (fun K hK => ?_)
    simp only [Mix.pick]
    go_wp2_with fail
    refine Calls.mono (HCT.out _ hS2) ?_
    rintro e wx3 ⟨rfl, hbx3⟩
    have hS3 : Below w7.heap.size w7 wx3 := bthen hS2 hbx3
    clear hS2 hbx3
    go_wp2
    refine ⟨rfl, hK _ _ hS3 ?_⟩
    clear hK K
    refine MixH.one [false, false, false, false, false, false, false, false, false, false, false, false, false, false, true] 3 14 _ rfl rfl (by kernel_rfl) (by kernel_rfl) (fun K hK => ?_)
    simp only [Mix.pick]
    go_wp2_with fail
    refine Calls.mono (num9_any (E : Int) _) ?_
    rintro e wn ⟨rfl, rfl⟩
    go_wp2
    refine ⟨rfl, hK _ _ hS3 ?_⟩
    clear hK K
    refine MixH.takes [false, false, false, false, false, false, false, false, false, false, false, false, false, false, false, true, true, true] 0 (by kernel_rfl) (by kernel_rfl) (by decide) (by kernel_rfl) hS3 (fun K hK => ?_)
    simp only [Mix.pick]
    repeat (go_big_quiet_step (fail))
    refine wpQuiet_nil (hK _ ?_)
    clear hK K
    refine MixH.done (by kernel_rfl) ?_
    go_wp2
    go_ret
    exact ⟨rfl, bthen bel7 hS3⟩
  · have eN : ((N1 : Int) == most) = true := by rw [beq_iff_eq, hNm]; omega
    clear hNm HNN
    go_upto_region 11 with fail
    clear hm
    have QC : Hid _ := clamp_any t (some ⟨G, 0, none⟩) ln ln ps da n c most w5 HPL.out HPO5.out HLN.out HPS.out
    go_wp2_with (first | (refine wpList_load_t9 (.tmp 6) rfl OC t (some ⟨G, 0, none⟩) ln ln da n c rfl HOC5.out rfl ?_))
    refine Calls.mono QC.out ?_
    rintro e w6 ⟨G2, qs, rfl, hcl⟩
    have hb6 := hcl.bel
    have hqv : vals qs = vals ps := by
      rw [hcl.all HPL.out, HPV.out, List.map_map]
      refine List.map_congr_left (fun o ho => ?_)
      exact L4.clO_idem _ _ o (H256.out o ho)
    have HQV : Hid (vals qs = vals ps) := hqv
    have HQL : Hid (qs.length = ln) := hcl.pl
    have HQO6 : Hid (OptsAt w6 (some ⟨G2, 0, none⟩) qs) := hcl.opts
    clear hcl QC hqv
    have bel6 := bthen bel5 hb6
    have HR6 : Hid (TAt w6 B t la ln lc da n c) := TAt.below HR5.out hb6
    have HPO6 : Hid (OptsAt w6 (some ⟨G, 0, none⟩) ps) := OptsAt.old HPO5.out hb6
    have HOC6 : Hid (TAt w6 OC t (some ⟨G, 0, none⟩) ln ln da n c) := TAt.below HOC5.out hb6
    clear HR5 HPO5 HOC5
    clear hb6
    have hl7 : Below w6.heap.size w6 (w6.alloc (.cells (tC t (some ⟨G2, 0, none⟩) ln ln da n c) 39)) := (Below.refl _ _).alloc (Nat.le_refl _) _
    have un7 := tAt_new w6 t (some ⟨G2, 0, none⟩) ln ln da n c
    obtain ⟨w7, hw7⟩ : ∃ w7, w7 = w6.alloc (.cells (tC t (some ⟨G2, 0, none⟩) ln ln da n c) 39) := ⟨_, rfl⟩
    rw [← hw7] at hl7 un7
    have HW7 : Hid (w6.alloc (.cells #[.int .i64 t.sp, .int .i64 t.dp, .int .i64 t.sq, .int .i64 t.ak, .int .i64 t.fl, .int .i64 t.wi, .int .i64 t.ur, .slice (some ⟨G2, 0, none⟩) ln ln, .slice da n c] 39) = w7) := hw7.symm
    obtain ⟨OD, hOD⟩ : ∃ OD, OD = w6.heap.size := ⟨_, rfl⟩
    rw [← hOD] at un7
    have HOD7 : Hid (TAt w7 OD t (some ⟨G2, 0, none⟩) ln ln da n c) := un7
    have HVs7 : Hid (w6.heap.size = OD) := hOD.symm
    have bel7 := bthen bel6 hl7
    have HR7 : Hid (TAt w7 B t la ln lc da n c) := TAt.below HR6.out hl7
    have HPO7 : Hid (OptsAt w7 (some ⟨G, 0, none⟩) ps) := OptsAt.old HPO6.out hl7
    have HOC7 : Hid (TAt w7 OC t (some ⟨G, 0, none⟩) ln ln da n c) := TAt.below HOC6.out hl7
    have HQO7 : Hid (OptsAt w7 (some ⟨G2, 0, none⟩) qs) := OptsAt.old HQO6.out hl7
    clear HR6 HPO6 HOC6 HQO6
    clear hl7 un7 hw7 hOD
    rw [show tC t (some ⟨G2, 0, none⟩) ln ln da n c = #[.int .i64 t.sp, .int .i64 t.dp, .int .i64 t.sq, .int .i64 t.ak, .int .i64 t.fl, .int .i64 t.wi, .int .i64 t.ur, .slice (some ⟨G2, 0, none⟩) ln ln, .slice da n c] from rfl]
    go_upto_region 12 with fail
    rw [HVs7.out, HW7.out]
    clear HVs7 HW7
    have HSM : Hid (∀ A, Below w7.heap.size w7 A → Calls Tryd.prog 17 #[.agg (tC t (some ⟨G2, 0, none⟩) ln ln da n c), .agg (tC t (some ⟨G, 0, none⟩) ln ln da n c)] A fun e w' => e = .returned (.bool true) ∧ Below A.heap.size A w') := by
      intro A hA
      have hd := (HK.out.old (bthen bel7 hA)).d
      exact sameT_true t (some ⟨G2, 0, none⟩) (some ⟨G, 0, none⟩) ln ln ln qs ps da da n c c A (OptsAt.old HQO7.out hA) (OptsAt.old HPO7.out hA) HQL.out HQV.out (by have := HLN.out; omega) hd hd
    have HCC : Hid (∀ A, Below w7.heap.size w7 A → Calls Tryd.prog 21 #[.agg (tC t (some ⟨G, 0, none⟩) ln ln da n c)] A fun e w' => e = .returned (.int .i64 ((L4.tChk t : Nat) : Int)) ∧ Below A.heap.size A w') := by
      intro A hA
      have hd := (HK.out.old (bthen bel7 hA)).d
      have h := chkT_any (wOs t ps) (some ⟨G, 0, none⟩) ln ln ps da n c A (HT.out A (bthen bel7 hA)).l (TOk.with hd HPL.out (OptsAt.old HPO7.out hA) HLN.out)
      have e : L4.tChk (wOs t ps) = L4.tChk t := by
        have e2 := L4.cl_chk (synB t.fl) most.toNat t
        rw [← HK.out.ov, ← HPV.out] at e2
        have e3 : ({ t with os := vals ps } : T9) = wOs t ps := rfl
        rw [e3] at e2
        exact e2
      rw [e] at h
      exact h
    have HCT : Hid (∀ A, Below w7.heap.size w7 A → Calls Tryd.prog 21 #[.agg (tC t la ln lc da n c)] A fun e w' => e = .returned (.int .i64 ((L4.tChk t : Nat) : Int)) ∧ Below A.heap.size A w') := by
      intro A hA
      exact chkT_any t la ln lc os da n c A (HT.out A (bthen bel7 hA)).l (HK.out.old (bthen bel7 hA))
    obtain ⟨E, hE⟩ : ∃ E, E = L4.tChk t := ⟨_, rfl⟩
    rw [← hE] at HCC HCT
    clear hE
    refine MixH.start (fun A => Below w7.heap.size w7 A) (by kernel_rfl) ?_
    obtain ⟨wA, hwA⟩ : ∃ wA, wA = w7.drew := ⟨_, rfl⟩
    have hS : Below w7.heap.size w7 wA := by rw [hwA]; exact (Below.refl _ _).drew
    rw [← hwA]
    clear hwA
    refine MixH.takes [true, true, true, true] 14 (by kernel_rfl) (by kernel_rfl) (by decide) (by kernel_rfl) hS (fun K hK => ?_)
    simp only [Mix.pick]
    repeat (go_big_quiet_step (fail))
    refine wpQuiet_nil (hK _ ?_)
    clear hK K
    refine MixH.take 13 4 _ (.agg (tC t (some ⟨G2, 0, none⟩) ln ln da n c)) rfl (by kernel_rfl) (by kernel_rfl) (by kernel_rfl) (by kernel_rfl) (yields_t9 (.tmp 11) rfl OD t (some ⟨G2, 0, none⟩) ln ln da n c rfl rfl (fun A hA => TAt.below HOD7.out hA)) hS (fun a' ha => ?_)
    simp only [Act.put, List.setIfInBounds_toArray, List.set_cons_succ, List.set_cons_zero] at ha
    subst ha
    refine MixH.take 12 5 _ (.agg (tC t (some ⟨G, 0, none⟩) ln ln da n c)) rfl (by kernel_rfl) (by kernel_rfl) (by kernel_rfl) (by kernel_rfl) (yields_t9 (.tmp 6) rfl OC t (some ⟨G, 0, none⟩) ln ln da n c rfl rfl (fun A hA => TAt.below HOC7.out hA)) hS (fun a' ha => ?_)
    simp only [Act.put, List.setIfInBounds_toArray, List.set_cons_succ, List.set_cons_zero] at ha
    subst ha
    refine MixH.one [false, false, false, false, false, false, true] 11 6 _ rfl rfl (by kernel_rfl) (by kernel_rfl) (fun K hK => ?_)
    simp only [Mix.pick]
    go_wp2_with fail
    refine Calls.mono (HSM.out _ hS) ?_
    rintro e wx1 ⟨rfl, hbx1⟩
    have hS1 : Below w7.heap.size w7 wx1 := bthen hS hbx1
    clear hS hbx1
    go_wp2
    refine ⟨rfl, hK _ _ hS1 ?_⟩
    clear hK K
    refine MixH.takes [false, false, false, false, false, false, false, true, true] 9 (by kernel_rfl) (by kernel_rfl) (by decide) (by kernel_rfl) hS1 (fun K hK => ?_)
    simp only [Mix.pick]
    repeat (go_big_quiet_step (fail))
    refine wpQuiet_nil (hK _ ?_)
    clear hK K
    refine MixH.take 8 9 _ (.agg (tC t (some ⟨G, 0, none⟩) ln ln da n c)) rfl (by kernel_rfl) (by kernel_rfl) (by kernel_rfl) (by kernel_rfl) (yields_t9 (.tmp 6) rfl OC t (some ⟨G, 0, none⟩) ln ln da n c rfl rfl (fun A hA => TAt.below HOC7.out hA)) hS1 (fun a' ha => ?_)
    simp only [Act.put, List.setIfInBounds_toArray, List.set_cons_succ, List.set_cons_zero] at ha
    subst ha
    refine MixH.take 7 12 _ (.agg (tC t la ln lc da n c)) rfl (by kernel_rfl) (by kernel_rfl) (by kernel_rfl) (by kernel_rfl) (yields_t9 (.tmp 2) rfl B t la ln lc da n c rfl rfl (fun A hA => TAt.below HR7.out hA)) hS1 (fun a' ha => ?_)
    simp only [Act.put, List.setIfInBounds_toArray, List.set_cons_succ, List.set_cons_zero] at ha
    subst ha
    refine MixH.one [false, false, false, false, false, false, false, false, false, false, true] 6 10 _ rfl rfl (by kernel_rfl) (by kernel_rfl) (fun K hK => ?_)
    simp only [Mix.pick]
    go_wp2_with fail
    refine Calls.mono (HCC.out _ hS1) ?_
    rintro e wx2 ⟨rfl, hbx2⟩
    have hS2 : Below w7.heap.size w7 wx2 := bthen hS1 hbx2
    clear hS1 hbx2
    go_wp2
    refine ⟨rfl, hK _ _ hS2 ?_⟩
    clear hK K
    refine MixH.one [false, false, false, false, false, false, false, false, false, false, false, true] 5 11 _ rfl rfl (by kernel_rfl) (by kernel_rfl) (fun K hK => ?_)
    simp only [Mix.pick]
    go_wp2_with fail
    refine Calls.mono (num9_any (E : Int) _) ?_
    rintro e wn ⟨rfl, rfl⟩
    go_wp2
    refine ⟨rfl, hK _ _ hS2 ?_⟩
    clear hK K
    refine MixH.one [false, false, false, false, false, false, false, false, false, false, false, false, false, true] 4 13 _ rfl rfl (by kernel_rfl) (by kernel_rfl) (fun K hK => ?_)
    simp only [Mix.pick]
    go_wp2_with fail
    refine Calls.mono (HCT.out _ hS2) ?_
    rintro e wx3 ⟨rfl, hbx3⟩
    have hS3 : Below w7.heap.size w7 wx3 := bthen hS2 hbx3
    clear hS2 hbx3
    go_wp2
    refine ⟨rfl, hK _ _ hS3 ?_⟩
    clear hK K
    refine MixH.one [false, false, false, false, false, false, false, false, false, false, false, false, false, false, true] 3 14 _ rfl rfl (by kernel_rfl) (by kernel_rfl) (fun K hK => ?_)
    simp only [Mix.pick]
    go_wp2_with fail
    refine Calls.mono (num9_any (E : Int) _) ?_
    rintro e wn ⟨rfl, rfl⟩
    go_wp2
    refine ⟨rfl, hK _ _ hS3 ?_⟩
    clear hK K
    refine MixH.takes [false, false, false, false, false, false, false, false, false, false, false, false, false, false, false, true, true, true] 0 (by kernel_rfl) (by kernel_rfl) (by decide) (by kernel_rfl) hS3 (fun K hK => ?_)
    simp only [Mix.pick]
    repeat (go_big_quiet_step (fail))
    refine wpQuiet_nil (hK _ ?_)
    clear hK K
    refine MixH.done (by kernel_rfl) ?_
    go_wp2
    go_ret
    exact ⟨rfl, bthen bel7 hS3⟩
end Go.Proofs.YtmeieggnfmhnmaaDoor
