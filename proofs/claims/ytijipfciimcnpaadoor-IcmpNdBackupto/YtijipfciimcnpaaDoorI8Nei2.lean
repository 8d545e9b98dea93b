/-
  neighbours: its walk.
-/
import Derived.Test.YtijipfciimcnpaaDoorI8Nei
import Derived.Test.YtijipfciimcnpaaDoorI8Put1
namespace Go.Proofs.YtijipfciimcnpaaDoor
open Go.RowKit
open I8 (M8)

theorem wh_len : whD.length = 24 := pnD_len 1 whX true whM
set_option maxHeartbeats 3200000 in
set_option maxRecDepth 100000 in
theorem neigh_any (w : World) (hd : Dis8 w) (hs : Spe8 w) : Calls Tryd.prog 8 #[] w fun e w' => e = .returned (.bool true) ∧ Below w.heap.size w w' := by
  have HD : Hid (Dis8 w) := hd
  have HS : Hid (Spe8 w) := hs
  clear hd hs
  go_enter Tryd.func8, Tryd.ntmps8
  go_wp2_with fail
  refine Calls.mono (whom_any w) ?_
  rintro e w1 ⟨rfl, bel1⟩
  have HD1 : Hid (Dis8 w1) := HD.out.old bel1
  have HS1 : Hid (Spe8 w1) := HS.out.old bel1
  obtain ⟨WN, hWN⟩ : ∃ WN, WN = whN := ⟨_, rfl⟩
  have QP : Hid _ := putND_1 6 whX false false false true whM w1 whX_lt whM_lt HD1.out HS1.out
  rw [show ndC 1 6 whX false false false true whM = WN from hWN.symm] at QP
  rw [← hWN]
  have HWN : Hid (WN = whN) := hWN
  clear hWN
  go_wp2_with fail
  refine Calls.mono QP.out ?_
  rintro e w2 ⟨hres, hb2⟩
  rcases hres with ⟨hne, _⟩ | ⟨_, g, rfl, how⟩
  · exact absurd wh_pn hne
  have bel2 := bthen bel1 hb2
  have HD2 : Hid (Dis8 w2) := HD1.out.old hb2
  have HS2 : Hid (Spe8 w2) := HS1.out.old hb2
  have hok2 : MOk w2 whQ (some ⟨g, 0, none⟩) 24 24 := by
    have h := put_ok (M := whQ) how (pnD_lt 1 (by decide) whX true whM whX_lt whM_lt) (by show whD.length ≤ 24; rw [wh_len]; exact Nat.le_refl _)
    rw [show whQ.d.length = 24 from wh_len] at h
    exact h
  have ewl : (pnD 1 whX true whM).length = 24 := wh_len
  rw [ewl]
  obtain ⟨QQ, hQQ⟩ : ∃ QQ : M8, QQ = whQ := ⟨_, rfl⟩
  have hQ' : (⟨6, 135, 0, rsB false false false, pnD 1 whX true whM⟩ : M8) = QQ := hQQ.symm
  rw [hQ']
  rw [← hQQ] at hok2
  have HQQ : Hid (QQ = whQ) := hQQ
  obtain ⟨wM, hwM⟩ : ∃ wM, wM = w2.alloc (.cells (mC m8z none 0 0) 31) := ⟨_, rfl⟩
  obtain ⟨O, hO⟩ : ∃ O, O = w2.heap.size := ⟨_, rfl⟩
  have hbM : Below w2.heap.size w2 wM := by rw [hwM]; exact (Below.refl _ _).alloc (Nat.le_refl _) _
  have HMM : Hid (MAt wM O m8z none 0 0) := by rw [hwM, hO]; exact mAt_new _ _ _ _ _
  have HWM : Hid (w2.alloc (.cells (mC m8z none 0 0) 31) = wM) := hwM.symm
  have HO : Hid (w2.heap.size = O) := hO.symm
  have HOW : Hid (w.heap.size ≤ O) := by rw [hO]; exact bel2.size
  have HDM : Hid (Dis8 wM ∧ Spe8 wM) := ⟨HD2.out.old hbM, HS2.out.old hbM⟩
  have HGL : Hid (1 < O ∧ 3 < O ∧ g < O) := by
    rw [hO]
    refine ⟨HD2.out.lt, HS2.out.lt, ?_⟩
    exact (how.lt g rfl).2
  have HOKM : Hid (Seg .u8 w2 (some ⟨g, 0, none⟩) (toI QQ.d)) := hok2.seg
  have HOK2 : Hid (MOk w2 QQ (some ⟨g, 0, none⟩) 24 24) := hok2
  have belM := bthen bel2 hbM
  clear hQ' hQQ hwM hO hbM QP hb2 how hok2 ewl bel1 bel2 HD HS HD1 HS1 HD2 HS2
  go_upto_region 2 with (first | (refine wpList_alloc_m8 rfl rfl ?_; rw [HWM.out, HO.out]) | (refine wpList_store_m8 (.tmp 1) (.tmp 8) rfl rfl O m8z QQ none (some ⟨g, 0, none⟩) 0 0 24 24 rfl rfl HMM.out rfl ?_))
  intro w3 hR3 k3
  have hne3 : ∀ q, q < O → ¬ (fun z => z = O) q := fun q h e => by have e' : q = O := e; omega
  have b3 := ch_below k3 HMM.out.lt
  have hsM : Seg .u8 wM (some ⟨g, 0, none⟩) (toI QQ.d) := by rw [← HWM.out]; exact HOKM.out.old ((Below.refl _ _).alloc (Nat.le_refl _) _)
  have hs3 : Seg .u8 w3 (some ⟨g, 0, none⟩) (toI QQ.d) := hsM.below (.inr ⟨g, 0, rfl, HGL.out.2.2⟩) b3
  have hok3 : MOk w3 QQ (some ⟨g, 0, none⟩) 24 24 := ⟨HOK2.out.dl, hs3, HOK2.out.d256, HOK2.out.cap, HOK2.out.top, HOK2.out.sm⟩
  have HD3 : Hid (Dis8 w3) := HDM.out.1.ch k3 (hne3 _ HGL.out.1)
  have HS3 : Hid (Spe8 w3) := HDM.out.2.ch k3 (hne3 _ HGL.out.2.1)
  have HM3 : Hid (MAt w3 O QQ (some ⟨g, 0, none⟩) 24 24) := hR3
  have bel3 : Below w.heap.size w w3 := belM.trans (b3.mono HOW.out)
  have QD : Hid _ := parseND_any QQ (some ⟨g, 0, none⟩) 24 24 w3 hok3 HD3.out HS3.out
  rw [show pdE QQ = 0 by rw [HQQ.out]; exact wh_pd.2.1, show pdC QQ = whN by rw [HQQ.out]; exact wh_pd.2.2, ← HWN.out] at QD
  clear hne3 b3 hsM hs3 hok3 k3 hR3 HMM HDM HGL belM HOKM HOK2
  go_wp2_with (first | (refine wpList_load_m8 (.tmp 1) rfl O QQ (some ⟨g, 0, none⟩) 24 24 rfl HM3.out rfl ?_))
  refine Calls.mono QD.out ?_
  rintro e w4 ⟨rfl, hb4⟩
  have HM4 : Hid (MAt w4 O QQ (some ⟨g, 0, none⟩) 24 24) := HM3.out.below hb4
  have bel4 := bthen bel3 hb4
  obtain ⟨wN, hwN⟩ : ∃ wN, wN = w4.alloc (.cells ndZ 28) := ⟨_, rfl⟩
  obtain ⟨P, hP⟩ : ∃ P, P = w4.heap.size := ⟨_, rfl⟩
  have hbN : Below w4.heap.size w4 wN := by rw [hwN]; exact (Below.refl _ _).alloc (Nat.le_refl _) _
  have HNN : Hid (NdAt wN P ndZ) := by rw [hwN, hP]; exact ndAt_new _ _
  have HWNN : Hid (w4.alloc (.cells ndZ 28) = wN) := hwN.symm
  have HP : Hid (w4.heap.size = P) := hP.symm
  have HPO : Hid (O < P ∧ w.heap.size ≤ P) := by rw [hP]; exact ⟨HM4.out.lt, bel4.size⟩
  have HMN : Hid (MAt wN O QQ (some ⟨g, 0, none⟩) 24 24) := HM4.out.below hbN
  have belN := bthen bel4 hbN
  have HWS : Hid (WN.size = 28 ∧ WN.all (·.oneCell') = true) := by rw [HWN.out]; exact ⟨rfl, ndC_one _ _ _ _ _ _ _ _⟩
  clear hwN hP hbN QD HM3 HD3 HS3 bel3 hb4 HM4 bel4
  go_upto_region 3 with (first | (refine wpList_alloc_nd rfl rfl ?_; rw [HWNN.out, HP.out]) | (refine wpList_store_nd (.tmp 3) (.tmp 13) rfl rfl P ndZ WN ndZ_size HWS.out.1 HWS.out.2 rfl rfl HNN.out rfl ?_))
  intro w5 hR5 k5
  have b5 := ch_below k5 HNN.out.lt
  have HN5 : Hid (NdAt w5 P WN) := hR5
  have HM5 : Hid (MAt w5 O QQ (some ⟨g, 0, none⟩) 24 24) := HMN.out.ch k5 (fun e => by have e' : O = P := e; have := HPO.out; omega)
  have bel5 : Below w.heap.size w w5 := belN.trans (b5.mono HPO.out.2)
  have HQV : Hid (QQ.v = 6 ∧ QQ.t = 135) := by rw [HQQ.out]; exact ⟨rfl, rfl⟩
  clear b5 hR5 k5 HNN HMN belN
  go_upto_region 3 with fail
  refine MixH.start (fun A => Below w5.heap.size w5 A) (by kernel_rfl) ?_
  obtain ⟨wA, hwA⟩ : ∃ wA, wA = w5.drew := ⟨_, rfl⟩
  have hS : Below w5.heap.size w5 wA := by rw [hwA]; exact (Below.refl _ _).drew
  rw [← hwA]
  clear hwA
  refine MixH.takes [true, true, true] 25 (by kernel_rfl) (by kernel_rfl) (by decide) (by kernel_rfl) hS (fun K hK => ?_)
  simp only [Mix.pick]
  repeat (go_big_quiet_step (fail))
  refine wpQuiet_nil (hK _ ?_)
  clear hK K
  refine MixH.takes [false, false, false, true, true] 23 (by kernel_rfl) (by kernel_rfl) (by decide) (by kernel_rfl) hS (fun K hK => ?_)
  simp only [Mix.pick]
  repeat (go_big_quiet_step (fail))
  refine wpQuiet_nil (hK _ ?_)
  clear hK K
  refine MixH.takes [false, false, false, false, false, true, true] 21 (by kernel_rfl) (by kernel_rfl) (by decide) (by kernel_rfl) hS (fun K hK => ?_)
  simp only [Mix.pick]
  repeat (go_big_quiet_step (fail))
  refine wpQuiet_nil (hK _ ?_)
  clear hK K
  refine MixH.take 20 7 _ (.agg WN.toList.toArray) rfl (by kernel_rfl) (by kernel_rfl) (by kernel_rfl) (by kernel_rfl) (yieldsIf_load_mid rfl 28 (.tmp 3) rfl P 0 rfl WN.toList _ (fun A hA j v hv => by rw [Nat.zero_add, (HN5.out.below hA).cell, ← Array.getElem?_toList]; exact hv) Tryd.underlying28 rfl (by rw [Array.length_toList, HWS.out.1]; exact Tryd.sizeNd)) hS (fun a' ha => ?_)
  simp only [Act.put, List.setIfInBounds_toArray, List.set_cons_succ, List.set_cons_zero] at ha
  subst ha
  refine MixH.one [false, false, false, false, false, false, false, false, true] 19 8 _ rfl rfl (by kernel_rfl) (by kernel_rfl) (fun K hK => ?_)
  simp only [Mix.pick]
  go_wp2_with fail
  refine Calls.mono (whom_any wA) ?_
  rintro e w6 ⟨rfl, hb6⟩
  have hS6 : Below w5.heap.size w5 w6 := hS.trans (hb6.mono hS.size)
  clear hS hb6
  go_wp2
  refine ⟨rfl, hK _ _ hS6 ?_⟩
  clear hK K
  refine MixH.take 18 9 _ (.bool true) rfl (by kernel_rfl) (by kernel_rfl) (by kernel_rfl) (by kernel_rfl) (yields_eql_nd (.tmp 22) (.tmp 23) rfl 1 6 whX false false false true whM (by show Value.agg WN.toList.toArray = _; rw [HWN.out]; rfl) rfl rfl) hS6 (fun a' ha => ?_)
  simp only [Act.put, List.setIfInBounds_toArray, List.set_cons_succ, List.set_cons_zero] at ha
  subst ha
  refine MixH.takes [false, false, false, false, false, false, false, false, false, false, true, true, true] 15 (by kernel_rfl) (by kernel_rfl) (by decide) (by kernel_rfl) hS6 (fun K hK => ?_)
  simp only [Mix.pick]
  repeat (go_big_quiet_step (fail))
  refine wpQuiet_nil (hK _ ?_)
  clear hK K
  refine MixH.take 14 13 _ (.slice (some ⟨g, 0, none⟩) 24 24) rfl (by kernel_rfl) (by kernel_rfl) (by kernel_rfl) (by kernel_rfl) (yields_bytes (.tmp 27) rfl ⟨O, 4, none⟩ _ rfl rfl (fun A hA => (HM5.out.below hA).c4)) hS6 (fun a' ha => ?_)
  simp only [Act.put, List.setIfInBounds_toArray, List.set_cons_succ, List.set_cons_zero] at ha
  subst ha
  refine MixH.takes [false, false, false, false, false, false, false, false, false, false, false, false, false, false, true, true, true, true, true] 9 (by kernel_rfl) (by kernel_rfl) (by decide) (by kernel_rfl) hS6 (fun K hK => ?_)
  simp only [Mix.pick]
  repeat (go_big_quiet_step (fail))
  refine wpQuiet_nil (hK _ ?_)
  clear hK K
  refine MixH.take 8 19 _ (.int .i64 135) rfl (by kernel_rfl) (by kernel_rfl) (by kernel_rfl) (by kernel_rfl) (yields_int (.tmp 33) rfl ⟨O, 1, none⟩ _ rfl rfl (fun A hA => by rw [(HM5.out.below hA).c1, HQV.out.2])) hS6 (fun a' ha => ?_)
  simp only [Act.put, List.setIfInBounds_toArray, List.set_cons_succ, List.set_cons_zero] at ha
  subst ha
  refine MixH.takes [false, false, false, false, false, false, false, false, false, false, false, false, false, false, false, false, false, false, false, false, true, true, true, true] 4 (by kernel_rfl) (by kernel_rfl) (by decide) (by kernel_rfl) hS6 (fun K hK => ?_)
  simp only [Mix.pick]
  repeat (go_big_quiet_step (fail))
  refine wpQuiet_nil (hK _ ?_)
  clear hK K
  refine MixH.take 3 24 _ (.int .i64 6) rfl (by kernel_rfl) (by kernel_rfl) (by kernel_rfl) (by kernel_rfl) (yields_int (.tmp 38) rfl ⟨O, 0, none⟩ _ rfl rfl (fun A hA => by rw [(HM5.out.below hA).c0, HQV.out.1])) hS6 (fun a' ha => ?_)
  simp only [Act.put, List.setIfInBounds_toArray, List.set_cons_succ, List.set_cons_zero] at ha
  subst ha
  refine MixH.takes [false, false, false, false, false, false, false, false, false, false, false, false, false, false, false, false, false, false, false, false, false, false, false, false, false, true, true, true] 0 (by kernel_rfl) (by kernel_rfl) (by decide) (by kernel_rfl) hS6 (fun K hK => ?_)
  simp only [Mix.pick]
  repeat (go_big_quiet_step (fail))
  refine wpQuiet_nil (hK _ ?_)
  clear hK K
  refine MixH.done (by kernel_rfl) ?_
  have bel6 := bthen bel5 hS6
  go_wp2
  go_ret
  exact ⟨rfl, bel6⟩
end Go.Proofs.YtijipfciimcnpaaDoor
