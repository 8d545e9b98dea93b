/-
  IcmpNdBack: its walk.
-/
import Derived.Test.YtijipfciimcnpaaDoorKNd
namespace Go.Proofs.YtijipfciimcnpaaDoor
open Go.RowKit
open I8 (M8)

set_option maxHeartbeats 3200000 in
set_option maxRecDepth 100000 in
theorem icmpNdBack.walk (w : World) (hd : Dis8 w) (hs : Spe8 w) (k V : Int) (x : Nat → Nat) (r s o h : Bool) (mc : Nat → Nat) (hx : ∀ i, i < 16 → x i < 256) (hm : ∀ i, i < 6 → mc i < 256) (m : M8) (da : Option Addr) (n c : Nat) (hok : MOk w m da n c) :
    Calls Tryd.prog 3 #[.agg (ndC k V x r s o h mc), .agg (mC m da n c)] w fun e w' => e = .returned (.bool true) ∧ Below w.heap.size w w' := by
  obtain ⟨NV, hNV⟩ : ∃ NV, NV = ndC k V x r s o h mc := ⟨_, rfl⟩
  obtain ⟨C, hC⟩ : ∃ C, C = mC m da n c := ⟨_, rfl⟩
  have hb1 : Below w.heap.size w (w.alloc (.cells NV 28)) := (Below.refl _ _).alloc (Nat.le_refl _) _
  have hn1 := ndAt_new w NV
  have hb2 : Below (w.alloc (.cells NV 28)).heap.size (w.alloc (.cells NV 28)) ((w.alloc (.cells NV 28)).alloc (.cells C 31)) := (Below.refl _ _).alloc (Nat.le_refl _) _
  have hm2 : MAt ((w.alloc (.cells NV 28)).alloc (.cells C 31)) (w.heap.size + 1) m da n c := by
    have := mAt_new (w.alloc (.cells NV 28)) m da n c
    rw [World.size_alloc] at this
    rw [hC]; exact this
  have hn2 := hn1.below hb2
  have bel := bthen hb1 hb2
  obtain ⟨W, hW⟩ : ∃ W, W = (w.alloc (.cells NV 28)).alloc (.cells C 31) := ⟨_, rfl⟩
  rw [← hW] at hm2 hn2 bel
  obtain ⟨B, hB⟩ : ∃ B, B = w.heap.size := ⟨_, rfl⟩
  rw [← hB] at hm2 hn2
  have HB : Hid (w.heap.size = B) := hB.symm
  have HW : Hid ((w.alloc (.cells NV 28)).alloc (.cells C 31) = W) := hW.symm
  have HN : Hid (NdAt W B NV) := hn2
  have HNB : Hid (NbS w W B m da n c) := ⟨hd.old bel, hs.old bel, hm2, hok.old bel, bel⟩
  have HNV : Hid (NV = ndC k V x r s o h mc) := hNV
  have HNS : Hid (NV.size = 28) := by rw [hNV]; rfl
  have HX0 : Hid (∀ i, i < 16 → x i < 256) := hx
  have HM0 : Hid (∀ i, i < 6 → mc i < 256) := hm
  rw [← hNV, ← hC]
  clear hd hs hx hm hok hb1 hn1 hb2 hm2 hn2 bel hW hB hNV hC
  go_enter Tryd.func3, Tryd.ntmps3
  go_upto_region 1 with fail
  rw [HB.out, HW.out]
  go_wp2_with fail
  refine Calls.mono (neigh_any W HNB.out.dis HNB.out.spe) ?_
  rintro e w1 ⟨rfl, hb1⟩
  have HNB1 : Hid (NbS w w1 B m da n c) := HNB.out.old hb1
  have HN1 : Hid (NdAt w1 B NV) := HN.out.below hb1
  have QP : Hid _ := putND_u k V x r s o h mc w1 HX0.out HM0.out HNB1.out.dis HNB1.out.spe
  rw [← HNV.out] at QP
  clear hb1 HNB HN
  go_wp2_with (first | (refine wpList_load_nd (.tmp 2) rfl B NV HNS.out rfl HN1.out rfl ?_))
  refine Calls.mono QP.out ?_
  rintro e w2 ⟨hb2, er, M, dm, l, rfl, hz, _⟩
  have HNB2 : Hid (NbS w w2 B m da n c) := HNB1.out.old hb2
  have HN2 : Hid (NdAt w2 B NV) := HN1.out.below hb2
  have HZ : Hid (er = 0 → MOk w2 M dm l l ∧ pdE M = 0 ∧ pdC M = NV ∧ I8.chk M = 0) := hz
  obtain ⟨wx, hwx⟩ : ∃ wx, wx = w2.alloc (.cells (mC m8z none 0 0) 31) := ⟨_, rfl⟩
  obtain ⟨X, hX⟩ : ∃ X, X = w2.heap.size := ⟨_, rfl⟩
  have HXx : Hid (MAt wx X m8z none 0 0) := by rw [hwx, hX]; exact mAt_new _ _ _ _ _
  have HWx : Hid (w2.alloc (.cells (mC m8z none 0 0) 31) = wx) := hwx.symm
  have HXS : Hid (w2.heap.size = X) := hX.symm
  clear hb2 hz QP HNB1 HN1 hwx hX
  go_upto_region 4 with (first | (refine wpList_alloc_m8 rfl rfl ?_; rw [HWx.out, HXS.out]) | (refine wpList_store_m8 (.tmp 5) (.tmp 17) rfl rfl X m8z M none dm 0 0 l l rfl rfl HXx.out rfl ?_))
  intro w3 hR3 k3
  have hb3 : Below w2.heap.size w2 w3 := below_put HXS.out.symm (by rw [HWx.out]; exact k3)
  have HNB3 : Hid (NbS w w3 B m da n c) := HNB2.out.old hb3
  have HN3 : Hid (NdAt w3 B NV) := HN2.out.below hb3
  have HX : Hid (MAt w3 X M dm l l) := hR3
  have HZ3 : Hid (er = 0 → MOk w3 M dm l l ∧ pdE M = 0 ∧ pdC M = NV ∧ I8.chk M = 0) := fun e => ⟨(HZ.out e).1.old hb3, (HZ.out e).2⟩
  have HXW : Hid (w.heap.size ≤ X) := by rw [← HXS.out]; exact HNB2.out.bel.size
  have HGX : Hid (1 ≠ X ∧ 3 ≠ X) := by
    rw [← HXS.out]
    exact ⟨Nat.ne_of_lt HNB2.out.dis.lt, Nat.ne_of_lt HNB2.out.spe.lt⟩
  clear hb3 hR3 k3 HNB2 HN2 HZ HXx
  by_cases he : er = 0
  · subst he
    obtain ⟨mok, p1, p2, p3⟩ := HZ3.out rfl
    have QR0 : Hid _ := parseND_any M dm l l w3 mok HNB3.out.dis HNB3.out.spe
    rw [p1, p2] at QR0
    have QK : Hid (∀ A, Calls Tryd.prog 11 #[.agg (mC M dm l l)] A fun e w' => e = .returned (.int .i64 0) ∧ Below A.heap.size A w') := fun A => by
      have := icCheck_any M dm l l A mok.dl mok.sm
      rw [p3] at this
      exact this
    clear mok p1 p2 p3 HZ3
    go_wp2_with (first | (refine wpList_load_m8 (.tmp 5) rfl X M dm l l rfl HX.out rfl ?_))
    refine Calls.mono QR0.out ?_
    rintro e w4 ⟨rfl, hb4⟩
    have HNB4 : Hid (NbS w w4 B m da n c) := HNB3.out.old hb4
    have HN4 : Hid (NdAt w4 B NV) := HN3.out.below hb4
    have HX4 : Hid (MAt w4 X M dm l l) := HX.out.below hb4
    obtain ⟨wy, hwy⟩ : ∃ wy, wy = w4.alloc (.cells ndZ 28) := ⟨_, rfl⟩
    obtain ⟨Y, hY⟩ : ∃ Y, Y = w4.heap.size := ⟨_, rfl⟩
    have HYN : Hid (NdAt wy Y ndZ) := by rw [hwy, hY]; exact ndAt_new _ _
    have HWy : Hid (w4.alloc (.cells ndZ 28) = wy) := hwy.symm
    have HYS : Hid (w4.heap.size = Y) := hY.symm
    have HN1c : Hid (NV.all (·.oneCell') = true) := by rw [HNV.out]; exact ndC_one _ _ _ _ _ _ _ _
    clear hb4 QR0 HNB3 HN3 HX hwy hY
    go_upto_region 6 with (first | (refine wpList_alloc_nd rfl rfl ?_; rw [HWy.out, HYS.out]) | (refine wpList_store_nd (.tmp 7) (.tmp 24) rfl rfl Y ndZ NV ndZ_size HNS.out HN1c.out rfl rfl HYN.out rfl ?_))
    intro w5 hR5 k5
    have hb5 : Below w4.heap.size w4 w5 := below_put HYS.out.symm (by rw [HWy.out]; exact k5)
    have HNB5 : Hid (NbS w w5 B m da n c) := HNB4.out.old hb5
    have HN5 : Hid (NdAt w5 B (ndC k V x r s o h mc)) := by rw [← HNV.out]; exact HN4.out.below hb5
    have HY5 : Hid (NdAt w5 Y (ndC k V x r s o h mc)) := by rw [← HNV.out]; exact hR5
    have HX5 : Hid (MAt w5 X M dm l l) := HX4.out.below hb5
    clear hR5 k5 hb5 HNB4 HN4 HX4 HYN
    go_wp2_with (first | (refine wpList_load_nd (.tmp 7) rfl Y _ (ndC_size _ _ _ _ _ _ _ _) rfl HY5.out rfl ?_) | (refine wpList_load_nd (.tmp 2) rfl B _ (ndC_size _ _ _ _ _ _ _ _) rfl HN5.out rfl ?_) | (refine wpList_neq_nd (.tmp 29) (.tmp 30) rfl k V x r s o h mc rfl rfl rfl ?_) | (refine wpList_load_m8 (.tmp 5) rfl X M dm l l rfl HX5.out rfl ?_))
    refine Calls.mono (QK.out w5) ?_
    rintro e w6 ⟨rfl, hb6⟩
    have HNB6 : Hid (NbS w w6 B m da n c) := HNB5.out.old hb6
    have HX : Hid (MAt w6 X M dm l l) := HX5.out.below hb6
    clear hb6 QK HNB5 HN5 HY5 HX5
    have QA : Hid _ := parseND_any m da n c w6 HNB6.out.ok HNB6.out.dis HNB6.out.spe
    have HMB : Hid (MAt w6 (B + 1) m da n c) := HNB6.out.mat
    obtain ⟨AV, hAV⟩ : ∃ AV, AV = pdC m := ⟨_, rfl⟩
    obtain ⟨AE, hAE⟩ : ∃ AE, AE = pdE m := ⟨_, rfl⟩
    rw [← hAV, ← hAE] at QA
    have HAS : Hid (AV.size = 28 ∧ AV.all (·.oneCell') = true) := by rw [hAV]; exact pdC_form m
    have HAV : Hid (AV = pdC m) := hAV
    have HAE : Hid (AE = pdE m) := hAE
    clear hAV hAE
    go_wp2_with (first | (refine wpList_load_m8 (.tmp 3) rfl (B + 1) m da n c rfl HMB.out rfl ?_))
    refine Calls.mono QA.out ?_
    rintro e wa ⟨rfl, hba⟩
    have HNBa : Hid (NbS w wa B m da n c) := HNB6.out.old hba
    have HXa : Hid (MAt wa X M dm l l) := HX.out.below hba
    obtain ⟨wb, hwb⟩ : ∃ wb, wb = wa.alloc (.cells ndZ 28) := ⟨_, rfl⟩
    obtain ⟨A, hA⟩ : ∃ A, A = wa.heap.size := ⟨_, rfl⟩
    have HAN : Hid (NdAt wb A ndZ) := by rw [hwb, hA]; exact ndAt_new _ _
    have HWb : Hid (wa.alloc (.cells ndZ 28) = wb) := hwb.symm
    have HA : Hid (wa.heap.size = A) := hA.symm
    clear hba QA HMB hwb hA
    go_upto_region 9 with (first | (refine wpList_alloc_nd rfl rfl ?_; rw [HWb.out, HA.out]) | (refine wpList_store_nd (.tmp 9) (.tmp 41) rfl rfl A ndZ AV ndZ_size HAS.out.1 HAS.out.2 rfl rfl HAN.out rfl ?_))
    intro wd hRd kd
    have hbd : Below wa.heap.size wa wd := below_put HA.out.symm (by rw [HWb.out]; exact kd)
    have HNBd : Hid (NbS w wd B m da n c) := HNBa.out.old hbd
    have HXd : Hid (MAt wd X M dm l l) := HXa.out.below hbd
    have HAd : Hid (NdAt wd A AV) := hRd
    have HXA : Hid (X < A) := by rw [← HA.out]; exact HXa.out.lt
    clear hRd kd hbd HNBa HXa HAN
    by_cases hae : AE = 0
    · subst hae
      obtain ⟨k', r', s', o', h', m', h12, ev, en, hm', hx'⟩ := parse_put m HNBd.out.ok.d256 HAE.out.symm
      have QP : Hid _ := putND_u k' 6 (tgX m.d) r' s' o' h' m' wd (fun i _ => hx' i) (fun i _ => hm' i) HNBd.out.dis HNBd.out.spe
      have eAV : ndC k' 6 (tgX m.d) r' s' o' h' m' = AV := by rw [HAV.out, ev]
      rw [eAV] at QP
      have HEN : Hid ((k' = 1 ∨ k' = 2) ∧ pnE k' 6 (tgX m.d) r' s' o' h' m' = 0) := ⟨h12, en⟩
      have HEV : Hid (AV = ndC k' 6 (tgX m.d) r' s' o' h' m') := eAV.symm
      clear h12 ev en hm' hx' eAV
      go_wp2_with (first | (refine wpList_load_nd (.tmp 9) rfl A AV HAS.out.1 rfl HAd.out rfl ?_))
      refine Calls.mono QP.out ?_
      rintro e we ⟨hbe, er, M', da', l', rfl, hz, hy⟩
      have e0 := hy HEN.out
      subst e0
      obtain ⟨mok, p1, p2, p3⟩ := hz rfl
      have HNBe : Hid (NbS w we B m da n c) := HNBd.out.old hbe
      have HXe : Hid (MAt we X M dm l l) := HXd.out.below hbe
      have HAe : Hid (NdAt we A AV) := HAd.out.below hbe
      have HMO : Hid (MOk we M' da' l' l') := mok
      have HPD : Hid (pdE M' = 0 ∧ pdC M' = AV) := ⟨p1, p2⟩
      clear hbe hz hy mok p1 p2 p3 QP HEN HXd HAd HNBd
      go_upto_region 12 with (first | (refine wpList_store_m8 (.tmp 5) (.tmp 51) rfl rfl X M M' dm da' l l l' l' rfl rfl HXe.out rfl ?_))
      intro wf hRf kf
      have hXw : w.heap.size ≤ X := HXW.out
      have bXf := ch_below kf HXe.out.lt
      have hgl := HGX.out
      have hneX : ∀ q, q ≠ X → ¬ (fun z => z = X) q := fun q h e => h e
      have hmof : MOk wf M' da' l' l' := ⟨HMO.out.dl, kf.seg HMO.out.seg (fun z hz ha e => seg_ne_m8 HXe.out HMO.out.seg z hz ha e), HMO.out.d256, HMO.out.cap, HMO.out.top, HMO.out.sm⟩
      have hdf : Dis8 wf := HNBe.out.dis.ch kf (hneX _ hgl.1)
      have hsf : Spe8 wf := HNBe.out.spe.ch kf (hneX _ hgl.2)
      have HAf : Hid (NdAt wf A AV) := HAe.out.ch kf (fun e => by have e' : A = X := e; have := HXA.out; omega)
      have HXf : Hid (MAt wf X M' da' l' l') := hRf
      have belf : Below w.heap.size w wf := HNBe.out.bel.trans (bXf.mono hXw)
      have QR : Hid _ := parseND_any M' da' l' l' wf hmof hdf hsf
      rw [HPD.out.1, HPD.out.2] at QR
      clear hRf kf hXw bXf hgl hneX hmof hdf hsf HNBe HXe HAe HMO HPD
      go_wp2_with (first | (refine wpList_load_m8 (.tmp 5) rfl X M' da' l' l' rfl HXf.out rfl ?_))
      refine Calls.mono QR.out ?_
      rintro e wg ⟨rfl, hbg⟩
      have HAg : Hid (NdAt wg A AV) := HAf.out.below hbg
      have belg := bthen belf hbg
      obtain ⟨wh, hwh⟩ : ∃ wh, wh = wg.alloc (.cells ndZ 28) := ⟨_, rfl⟩
      obtain ⟨P, hP⟩ : ∃ P, P = wg.heap.size := ⟨_, rfl⟩
      have HPN : Hid (NdAt wh P ndZ) := by rw [hwh, hP]; exact ndAt_new _ _
      have HWh : Hid (wg.alloc (.cells ndZ 28) = wh) := hwh.symm
      have HPS : Hid (wg.heap.size = P) := hP.symm
      clear hbg QR belf HXf HAf hwh hP
      go_upto_region 13 with (first | (refine wpList_alloc_nd rfl rfl ?_; rw [HWh.out, HPS.out]) | (refine wpList_store_nd (.tmp 10) (.tmp 56) rfl rfl P ndZ AV ndZ_size HAS.out.1 HAS.out.2 rfl rfl HPN.out rfl ?_))
      intro wi hRi ki
      have hbi : Below wg.heap.size wg wi := below_put HPS.out.symm (by rw [HWh.out]; exact ki)
      have HAi : Hid (NdAt wi A (ndC k' 6 (tgX m.d) r' s' o' h' m')) := by rw [← HEV.out]; exact HAg.out.below hbi
      have HPi : Hid (NdAt wi P (ndC k' 6 (tgX m.d) r' s' o' h' m')) := by rw [← HEV.out]; exact hRi
      have beli := bthen belg hbi
      clear hRi ki hbi HAg HPN belg
      go_wp2_with (first | (refine wpList_load_nd (.tmp 9) rfl A _ (ndC_size _ _ _ _ _ _ _ _) rfl HAi.out rfl ?_) | (refine wpList_load_nd (.tmp 10) rfl P _ (ndC_size _ _ _ _ _ _ _ _) rfl HPi.out rfl ?_) | (refine wpList_eql_nd (.tmp 65) (.tmp 66) rfl k' 6 (tgX m.d) r' s' o' h' m' rfl rfl rfl ?_))
      go_ret
      exact ⟨rfl, beli⟩
    · have hz : AV = ndZ := by rw [HAV.out]; unfold pdC; rw [if_neg (fun e => hae (by rw [HAE.out]; exact e))]
      have ene : (AE == 0) = false := beq_eq_false_iff_ne.2 hae
      have HAz : Hid (NdAt wd A ndZ) := by rw [← hz]; exact HAd.out
      have belz := HNBd.out.bel
      clear hae
      go_upto_region 10 with fail
      go_wp2_with (first | (refine wpList_load_nd (.tmp 9) rfl A ndZ ndZ_size rfl HAz.out rfl ?_) | (refine wpList_nd0_built rfl rfl ?_) | (refine wpList_eql_nd (.tmp 45) (.tmp 46) rfl 0 0 (fun _ => 0) false false false false (fun _ => 0) rfl rfl rfl ?_))
      go_ret
      exact ⟨rfl, belz⟩
  · have ene : (er == 0) = false := beq_eq_false_iff_ne.2 he
    clear he
    have QA : Hid _ := parseND_any m da n c w3 HNB3.out.ok HNB3.out.dis HNB3.out.spe
    have HMB : Hid (MAt w3 (B + 1) m da n c) := HNB3.out.mat
    obtain ⟨AV, hAV⟩ : ∃ AV, AV = pdC m := ⟨_, rfl⟩
    obtain ⟨AE, hAE⟩ : ∃ AE, AE = pdE m := ⟨_, rfl⟩
    rw [← hAV, ← hAE] at QA
    have HAS : Hid (AV.size = 28 ∧ AV.all (·.oneCell') = true) := by rw [hAV]; exact pdC_form m
    have HAV : Hid (AV = pdC m) := hAV
    have HAE : Hid (AE = pdE m) := hAE
    clear hAV hAE
    go_wp2_with (first | (refine wpList_load_m8 (.tmp 3) rfl (B + 1) m da n c rfl HMB.out rfl ?_))
    refine Calls.mono QA.out ?_
    rintro e wa ⟨rfl, hba⟩
    have HNBa : Hid (NbS w wa B m da n c) := HNB3.out.old hba
    have HXa : Hid (MAt wa X M dm l l) := HX.out.below hba
    obtain ⟨wb, hwb⟩ : ∃ wb, wb = wa.alloc (.cells ndZ 28) := ⟨_, rfl⟩
    obtain ⟨A, hA⟩ : ∃ A, A = wa.heap.size := ⟨_, rfl⟩
    have HAN : Hid (NdAt wb A ndZ) := by rw [hwb, hA]; exact ndAt_new _ _
    have HWb : Hid (wa.alloc (.cells ndZ 28) = wb) := hwb.symm
    have HA : Hid (wa.heap.size = A) := hA.symm
    clear hba QA HMB hwb hA
    go_upto_region 9 with (first | (refine wpList_alloc_nd rfl rfl ?_; rw [HWb.out, HA.out]) | (refine wpList_store_nd (.tmp 9) (.tmp 41) rfl rfl A ndZ AV ndZ_size HAS.out.1 HAS.out.2 rfl rfl HAN.out rfl ?_))
    intro wd hRd kd
    have hbd : Below wa.heap.size wa wd := below_put HA.out.symm (by rw [HWb.out]; exact kd)
    have HNBd : Hid (NbS w wd B m da n c) := HNBa.out.old hbd
    have HXd : Hid (MAt wd X M dm l l) := HXa.out.below hbd
    have HAd : Hid (NdAt wd A AV) := hRd
    have HXA : Hid (X < A) := by rw [← HA.out]; exact HXa.out.lt
    clear hRd kd hbd HNBa HXa HAN
    by_cases hae : AE = 0
    · subst hae
      obtain ⟨k', r', s', o', h', m', h12, ev, en, hm', hx'⟩ := parse_put m HNBd.out.ok.d256 HAE.out.symm
      have QP : Hid _ := putND_u k' 6 (tgX m.d) r' s' o' h' m' wd (fun i _ => hx' i) (fun i _ => hm' i) HNBd.out.dis HNBd.out.spe
      have eAV : ndC k' 6 (tgX m.d) r' s' o' h' m' = AV := by rw [HAV.out, ev]
      rw [eAV] at QP
      have HEN : Hid ((k' = 1 ∨ k' = 2) ∧ pnE k' 6 (tgX m.d) r' s' o' h' m' = 0) := ⟨h12, en⟩
      have HEV : Hid (AV = ndC k' 6 (tgX m.d) r' s' o' h' m') := eAV.symm
      clear h12 ev en hm' hx' eAV
      go_wp2_with (first | (refine wpList_load_nd (.tmp 9) rfl A AV HAS.out.1 rfl HAd.out rfl ?_))
      refine Calls.mono QP.out ?_
      rintro e we ⟨hbe, er, M', da', l', rfl, hz, hy⟩
      have e0 := hy HEN.out
      subst e0
      obtain ⟨mok, p1, p2, p3⟩ := hz rfl
      have HNBe : Hid (NbS w we B m da n c) := HNBd.out.old hbe
      have HXe : Hid (MAt we X M dm l l) := HXd.out.below hbe
      have HAe : Hid (NdAt we A AV) := HAd.out.below hbe
      have HMO : Hid (MOk we M' da' l' l') := mok
      have HPD : Hid (pdE M' = 0 ∧ pdC M' = AV) := ⟨p1, p2⟩
      clear hbe hz hy mok p1 p2 p3 QP HEN HXd HAd HNBd
      go_upto_region 12 with (first | (refine wpList_store_m8 (.tmp 5) (.tmp 51) rfl rfl X M M' dm da' l l l' l' rfl rfl HXe.out rfl ?_))
      intro wf hRf kf
      have hXw : w.heap.size ≤ X := HXW.out
      have bXf := ch_below kf HXe.out.lt
      have hgl := HGX.out
      have hneX : ∀ q, q ≠ X → ¬ (fun z => z = X) q := fun q h e => h e
      have hmof : MOk wf M' da' l' l' := ⟨HMO.out.dl, kf.seg HMO.out.seg (fun z hz ha e => seg_ne_m8 HXe.out HMO.out.seg z hz ha e), HMO.out.d256, HMO.out.cap, HMO.out.top, HMO.out.sm⟩
      have hdf : Dis8 wf := HNBe.out.dis.ch kf (hneX _ hgl.1)
      have hsf : Spe8 wf := HNBe.out.spe.ch kf (hneX _ hgl.2)
      have HAf : Hid (NdAt wf A AV) := HAe.out.ch kf (fun e => by have e' : A = X := e; have := HXA.out; omega)
      have HXf : Hid (MAt wf X M' da' l' l') := hRf
      have belf : Below w.heap.size w wf := HNBe.out.bel.trans (bXf.mono hXw)
      have QR : Hid _ := parseND_any M' da' l' l' wf hmof hdf hsf
      rw [HPD.out.1, HPD.out.2] at QR
      clear hRf kf hXw bXf hgl hneX hmof hdf hsf HNBe HXe HAe HMO HPD
      go_wp2_with (first | (refine wpList_load_m8 (.tmp 5) rfl X M' da' l' l' rfl HXf.out rfl ?_))
      refine Calls.mono QR.out ?_
      rintro e wg ⟨rfl, hbg⟩
      have HAg : Hid (NdAt wg A AV) := HAf.out.below hbg
      have belg := bthen belf hbg
      obtain ⟨wh, hwh⟩ : ∃ wh, wh = wg.alloc (.cells ndZ 28) := ⟨_, rfl⟩
      obtain ⟨P, hP⟩ : ∃ P, P = wg.heap.size := ⟨_, rfl⟩
      have HPN : Hid (NdAt wh P ndZ) := by rw [hwh, hP]; exact ndAt_new _ _
      have HWh : Hid (wg.alloc (.cells ndZ 28) = wh) := hwh.symm
      have HPS : Hid (wg.heap.size = P) := hP.symm
      clear hbg QR belf HXf HAf hwh hP
      go_upto_region 13 with (first | (refine wpList_alloc_nd rfl rfl ?_; rw [HWh.out, HPS.out]) | (refine wpList_store_nd (.tmp 10) (.tmp 56) rfl rfl P ndZ AV ndZ_size HAS.out.1 HAS.out.2 rfl rfl HPN.out rfl ?_))
      intro wi hRi ki
      have hbi : Below wg.heap.size wg wi := below_put HPS.out.symm (by rw [HWh.out]; exact ki)
      have HAi : Hid (NdAt wi A (ndC k' 6 (tgX m.d) r' s' o' h' m')) := by rw [← HEV.out]; exact HAg.out.below hbi
      have HPi : Hid (NdAt wi P (ndC k' 6 (tgX m.d) r' s' o' h' m')) := by rw [← HEV.out]; exact hRi
      have beli := bthen belg hbi
      clear hRi ki hbi HAg HPN belg
      go_wp2_with (first | (refine wpList_load_nd (.tmp 9) rfl A _ (ndC_size _ _ _ _ _ _ _ _) rfl HAi.out rfl ?_) | (refine wpList_load_nd (.tmp 10) rfl P _ (ndC_size _ _ _ _ _ _ _ _) rfl HPi.out rfl ?_) | (refine wpList_eql_nd (.tmp 65) (.tmp 66) rfl k' 6 (tgX m.d) r' s' o' h' m' rfl rfl rfl ?_))
      go_ret
      exact ⟨rfl, beli⟩
    · have hz : AV = ndZ := by rw [HAV.out]; unfold pdC; rw [if_neg (fun e => hae (by rw [HAE.out]; exact e))]
      have ene : (AE == 0) = false := beq_eq_false_iff_ne.2 hae
      have HAz : Hid (NdAt wd A ndZ) := by rw [← hz]; exact HAd.out
      have belz := HNBd.out.bel
      clear hae
      go_upto_region 10 with fail
      go_wp2_with (first | (refine wpList_load_nd (.tmp 9) rfl A ndZ ndZ_size rfl HAz.out rfl ?_) | (refine wpList_nd0_built rfl rfl ?_) | (refine wpList_eql_nd (.tmp 45) (.tmp 46) rfl 0 0 (fun _ => 0) false false false false (fun _ => 0) rfl rfl rfl ?_))
      go_ret
      exact ⟨rfl, belz⟩
end Go.Proofs.YtijipfciimcnpaaDoor
