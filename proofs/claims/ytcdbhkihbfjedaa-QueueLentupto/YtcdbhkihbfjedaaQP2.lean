/-
  Layer 18: step: a queue does as the document says.
-/
import Derived.Test.YtcdbhkihbfjedaaQP1
namespace Go.Proofs.Ytcdbhkihbfjedaa
open Go.RowKit Go.ChangeShapes Go.WideShapes

set_option maxHeartbeats 6400000 in
set_option maxRecDepth 100000 in
theorem step_any {P lo : Nat} {J : List CL → TN → World → Prop} (hU : Und P lo J) (v : RQ) (rs : List RL) (cs : List CL) (t : TN) (kd cl sz it : Int) (tw : Bool) (w : World) (hJ : J cs t w) (hA : AL w v cs t rs) : Calls Try.prog 40 #[.agg (sdA ⟨some ⟨P, 0, none⟩, v⟩), .agg (opC ⟨kd, tw, cl, sz, it⟩)] w fun e w' => ∃ v' rs' cs' t', e = .returned (.tuple #[.agg (sdA ⟨some ⟨P, 0, none⟩, v'⟩), .bool true]) ∧ J cs' t' w' ∧ AL w' v' cs' t' rs' ∧ Kp w w' := by
  have U : Hid (Und P lo J) := hU
  have HH : Hid (J cs t w ∧ AL w v cs t rs ∧ QOk cs t ∧ lo ≤ w.heap.size) := ⟨hJ, hA, hU.ok hJ, hU.low hJ⟩
  clear hU hJ hA
  go_enter Try.func40, Try.ntmps40
  go_upto_region 1 with (first | (refine wpList_box_sdv (.tmp 0) rfl ⟨some ⟨P, 0, none⟩, v⟩ rfl rfl ?_; intro B1 W1 hB1 hA1 b1) | (refine wpList_box_opv (.tmp 1) rfl ⟨kd, tw, cl, sz, it⟩ rfl rfl ?_; intro B2 W2 hB2 hA2 b2) | (refine wpList_nil_sdv rfl rfl ?_; intro B3 W3 hB3 hA3 b3))
  have HO : Hid (lo ≤ B1 ∧ w.heap.size = B1 ∧ B2 = B1 + 1 ∧ B3 = B2 + 1) := ⟨by have g0 := HH.out.2.2.2; have g1 := hB1.out; omega, hB1.out.1, by have g1 := hB1.out; have g2 := hB2.out; omega, by have g1 := hB2.out; have g2 := hB3.out; omega⟩
  have H : Hid (SdvAt W3 B1 ⟨some ⟨P, 0, none⟩, v⟩ ∧ OpvAt W3 B2 ⟨kd, tw, cl, sz, it⟩ ∧ SdvAt W3 B3 sz0 ∧ J cs t W3 ∧ AL W3 v cs t rs ∧ Kp w W3) := ⟨(hA1.below b2).below b3, hA2.below b3, hA3, U.out.below (U.out.below (U.out.below HH.out.1 b1) b2) b3, ((HH.out.2.1.below b1).below b2).below b3, (Kp.ofBelow (bthen (bthen b1 b2) b3))⟩
  clear hB1 hA1 b1 hB2 hA2 b2 hB3 hA3 b3
  have d0 : W3.cell? ⟨B2, 0, none⟩ = some (.int .i64 kd) := H.out.2.1.cell 0
  by_cases h1 : kd = 1
  · have q1 : (kd == 1) = true := by simpa using h1
    clear h1
    go_upto_region 3 with fail
    have c0 : W3.cell? ⟨B1, 0, none⟩ = some (.pointer (some ⟨P, 0, none⟩)) := H.out.1.ptr
    have d2 : W3.cell? ⟨B2, 2, none⟩ = some (.int .i64 cl) := H.out.2.1.cell 2
    have d3 : W3.cell? ⟨B2, 3, none⟩ = some (.int .i64 sz) := H.out.2.1.cell 3
    have d4 : W3.cell? ⟨B2, 4, none⟩ = some (.int .i64 it) := H.out.2.1.cell 4
    have QP : Hid _ := U.out.push H.out.2.2.2.1 cl sz it
    obtain ⟨pe, hpe⟩ : ∃ pe, pushE cs cl sz = pe := ⟨_, rfl⟩
    obtain ⟨c1, hc1⟩ : ∃ c1, pushCs cs cl sz it = c1 := ⟨_, rfl⟩
    rw [hpe, hc1] at QP
    have HPE : Hid (pushE cs cl sz = pe ∧ pushCs cs cl sz it = c1) := ⟨hpe, hc1⟩
    clear hpe hc1
    go_wp2_with fail
    refine Calls.mono QP.out ?_
    rintro e1 w1 ⟨rfl, j1, k1⟩
    clear QP c0 d0 d2 d3 d4
    have H1 : Hid (SdvAt w1 B1 ⟨some ⟨P, 0, none⟩, v⟩ ∧ OpvAt w1 B2 ⟨kd, tw, cl, sz, it⟩ ∧ SdvAt w1 B3 sz0 ∧ J c1 t w1 ∧ AL w1 v cs t rs ∧ Kp w w1) := ⟨H.out.1.kp k1, H.out.2.1.kp' k1, H.out.2.2.1.kp k1, j1, H.out.2.2.2.2.1.kp k1, H.out.2.2.2.2.2.trans k1⟩
    clear j1 k1 H
    have H : Hid _ := H1.out
    clear H1
    have d2 : w1.cell? ⟨B2, 2, none⟩ = some (.int .i64 cl) := H.out.2.1.cell 2
    have d3 : w1.cell? ⟨B2, 3, none⟩ = some (.int .i64 sz) := H.out.2.1.cell 3
    have d4 : w1.cell? ⟨B2, 4, none⟩ = some (.int .i64 it) := H.out.2.1.cell 4
    have QR : Hid _ := pushR_any v rs cs t cl sz it w1 H.out.2.2.2.2.1.st H.out.2.2.2.2.1.eq H.out.2.2.2.2.1.rt HH.out.2.2.1
    rw [HPE.out.1, HPE.out.2] at QR
    go_wp2_with (first | (refine wpList_mid_rqv (.tmp 36) rfl B1 1 v rfl H.out.1.rq rfl ?_))
    refine Calls.mono QR.out ?_
    clear QR d2 d3 d4
    rintro e2 w2 ⟨v', rs', rfl, s2, c2, r2, b2⟩
    have H2 : Hid (SdvAt w2 B1 ⟨some ⟨P, 0, none⟩, v⟩ ∧ OpvAt w2 B2 ⟨kd, tw, cl, sz, it⟩ ∧ SdvAt w2 B3 sz0 ∧ J c1 t w2 ∧ AL w2 v' c1 t rs' ∧ Kp w w2) := ⟨H.out.1.below b2, H.out.2.1.below b2, H.out.2.2.1.below b2, U.out.below H.out.2.2.2.1 b2, ⟨s2, c2, r2⟩, H.out.2.2.2.2.2.bel b2⟩
    clear s2 c2 r2 b2 H
    go_upto_region 5 with (first | (refine wpList_nil_rqv rfl rfl ?_; intro B4 X hB4 hX bX) | (refine wpList_store_rqv (.tmp 7) (.tmp 45) rfl rfl B4 qz v' rfl rfl hX rfl ?_; intro w3 h3 k3))
    have HB4 : Hid (B3 < B4) := by
      have h1 := hB4.out
      have h2 := (Array.getElem?_eq_some_iff.1 H2.out.2.2.1).1
      show _ < _
      omega
    have H3 : Hid ((SdvAt w3 B1 ⟨some ⟨P, 0, none⟩, v⟩ ∧ OpvAt w3 B2 ⟨kd, tw, cl, sz, it⟩ ∧ SdvAt w3 B3 sz0 ∧ J c1 t w3 ∧ AL w3 v' c1 t rs' ∧ Kp w w3) ∧ RqvAt w3 B4 v') := by
      have h1 := HB4.out
      have h2 := HO.out
      refine ⟨⟨(H2.out.1.below bX).ch k3 (by omega), (H2.out.2.1.below bX).ch k3 (by omega), (H2.out.2.2.1.below bX).ch k3 (by omega), U.out.ch (U.out.below H2.out.2.2.2.1 bX) k3 (by omega) hX (by decide) (by decide) (by decide), (H2.out.2.2.2.2.1.below bX).ks k3 hX (by decide) (by decide), (H2.out.2.2.2.2.2.bel bX).ch k3 (fun q hq => by omega)⟩, h3⟩
    clear hB4 hX bX h3 k3 H2
    go_upto_region 6 with (first | (refine wpList_load_rqv (.tmp 7) rfl B4 v' rfl H3.out.2 rfl ?_) | (refine wpList_store_sq (.tmp 48) (.tmp 47) rfl rfl B1 ⟨some ⟨P, 0, none⟩, v⟩ v' rfl rfl H3.out.1.1 rfl ?_; intro w4 h4 k4))
    have H : Hid (SdvAt w4 B1 ⟨some ⟨P, 0, none⟩, v'⟩ ∧ OpvAt w4 B2 ⟨kd, tw, cl, sz, it⟩ ∧ SdvAt w4 B3 sz0 ∧ J c1 t w4 ∧ AL w4 v' c1 t rs' ∧ Kp w w4) := by
      have h2 := HO.out
      exact ⟨h4, H3.out.1.2.1.ch k4 (by omega), H3.out.1.2.2.1.ch k4 (by omega), U.out.ch H3.out.1.2.2.2.1 k4 (by omega) H3.out.1.1 (by decide) (by decide) (by decide), H3.out.1.2.2.2.2.1.ks k4 H3.out.1.1 (by decide) (by decide), H3.out.1.2.2.2.2.2.ch k4 (fun q hq => by omega)⟩
    clear h4 k4 H3 HB4
    refine MixH.start (fun A => SdvAt A B1 ⟨some ⟨P, 0, none⟩, v'⟩) (by kernel_rfl) ?_
    obtain ⟨wA, hwA⟩ : ∃ W_, W_ = w4.drew := ⟨_, rfl⟩
    have bdr : Below w4.heap.size w4 wA := by rw [hwA]; exact (Below.refl _ _).drew
    have hS : SdvAt wA B1 ⟨some ⟨P, 0, none⟩, v'⟩ := H.out.1.below bdr
    have HA : Hid (SdvAt wA B1 ⟨some ⟨P, 0, none⟩, v'⟩ ∧ OpvAt wA B2 ⟨kd, tw, cl, sz, it⟩ ∧ SdvAt wA B3 sz0 ∧ J c1 t wA ∧ AL wA v' c1 t rs' ∧ Kp w wA) := ⟨H.out.1.below bdr, H.out.2.1.below bdr, H.out.2.2.1.below bdr, U.out.below H.out.2.2.2.1 bdr, H.out.2.2.2.2.1.below bdr, H.out.2.2.2.2.2.bel bdr⟩
    rw [← hwA]
    clear hwA bdr
    clear H
    have H : Hid _ := HA.out
    clear HA
    refine MixH.takes [false, true, false, true] 5 (by kernel_rfl) (by kernel_rfl) (by decide) (by kernel_rfl) hS (fun K hK => ?_)
    simp only [Mix.pick]
    repeat (go_big_quiet_step (fail))
    refine wpQuiet_nil (hK _ ?_)
    clear hK K
    refine MixH.take 4 0 _ (.agg (sdA ⟨some ⟨P, 0, none⟩, v'⟩)) rfl (by kernel_rfl) (by kernel_rfl) (by kernel_rfl) (by kernel_rfl) (yields_sdv (.tmp 2) rfl B1 0 ⟨some ⟨P, 0, none⟩, v'⟩ rfl rfl (fun A hA => hA.range 0 4)) hS (fun a' ha => ?_)
    simp only [Act.put, List.setIfInBounds_toArray, List.set_cons_succ, List.set_cons_zero] at ha
    subst ha
    refine MixH.one [false, false, true] 3 2 _ rfl rfl (by kernel_rfl) (by kernel_rfl) (fun K hK => ?_)
    simp only [Mix.pick]
    go_wp2_with fail
    refine Calls.mono (num_any pe wA) ?_
    rintro en wn ⟨rfl, rfl⟩

    go_wp2_with fail
    refine ⟨rfl, hK _ _ hS ?_⟩
    clear hK K
    refine MixH.takes [false, false, false, false, true] 2 (by kernel_rfl) (by kernel_rfl) (by decide) (by kernel_rfl) hS (fun K hK => ?_)
    simp only [Mix.pick]
    repeat (go_big_quiet_step (fail))
    refine wpQuiet_nil (hK _ ?_)
    clear hK K
    refine MixH.one [false, false, false, false, false, true] 1 5 _ rfl rfl (by kernel_rfl) (by kernel_rfl) (fun K hK => ?_)
    simp only [Mix.pick]
    refine wpList_store_sdv (.tmp 4) (.tmp 49) rfl rfl B3 sz0 ⟨some ⟨P, 0, none⟩, v'⟩ rfl rfl H.out.2.2.1 rfl ?_
    intro w9 h9 k9
    refine wpList_nil ?_
    replace hS : SdvAt w9 B1 ⟨some ⟨P, 0, none⟩, v'⟩ := hS.ch k9 (by have h1 := HO.out; omega)
    refine ⟨rfl, hK _ _ hS ?_⟩
    clear hK K
    refine MixH.takes [false, false, false, false, false, false, true] 0 (by kernel_rfl) (by kernel_rfl) (by decide) (by kernel_rfl) hS (fun K hK => ?_)
    simp only [Mix.pick]
    repeat (go_big_quiet_step (fail))
    refine wpQuiet_nil (hK _ ?_)
    clear hK K
    refine MixH.done (by kernel_rfl) ?_
    clear hS
    have HF : Hid (SdvAt w9 B3 ⟨some ⟨P, 0, none⟩, v'⟩ ∧ J c1 t w9 ∧ AL w9 v' c1 t rs' ∧ Kp w w9) := ⟨h9, U.out.ch H.out.2.2.2.1 k9 (by have h1 := HO.out; omega) H.out.2.2.1 (by decide) (by decide) (by decide), H.out.2.2.2.2.1.ks k9 H.out.2.2.1 (by decide) (by decide), H.out.2.2.2.2.2.ch k9 (fun q hq => by have h1 := HO.out; omega)⟩
    clear h9 k9
    go_wp2_with fail
    refine bodyPost_ret (results_sd2 rfl _ _ B3 _ rfl HF.out.1) rfl ?_
    exact ⟨v', rs', c1, t, by simp [Array.getD], HF.out.2.1, HF.out.2.2.1, HF.out.2.2.2⟩
  · have q1 : (kd == 1) = false := by simpa using h1
    clear h1
    by_cases h2 : kd = 2
    · have q2 : (kd == 2) = true := by simpa using h2
      clear h2
      go_upto_region 8 with fail
      have c0 : W3.cell? ⟨B1, 0, none⟩ = some (.pointer (some ⟨P, 0, none⟩)) := H.out.1.ptr
      have QP : Hid _ := U.out.pop H.out.2.2.2.1
      obtain ⟨pn, hpn⟩ : ∃ pn, popN cs t = pn := ⟨_, rfl⟩
      obtain ⟨pc, hpc⟩ : ∃ pc, popC cs t = pc := ⟨_, rfl⟩
      obtain ⟨pb, hpb⟩ : ∃ pb, anyR cs = pb := ⟨_, rfl⟩
      rw [hpn, hpc, hpb] at QP
      have HPN : Hid (popN cs t = pn ∧ popC cs t = pc ∧ anyR cs = pb) := ⟨hpn, hpc, hpb⟩
      clear hpn hpc hpb
      obtain ⟨c1, hc1⟩ : ∃ c1, popQ cs t = c1 := ⟨_, rfl⟩
      obtain ⟨t1, ht1⟩ : ∃ t1, popT cs t = t1 := ⟨_, rfl⟩
      rw [hc1, ht1] at QP
      have HC1 : Hid (popQ cs t = c1 ∧ popT cs t = t1) := ⟨hc1, ht1⟩
      clear hc1 ht1
      go_wp2_with fail
      refine Calls.mono QP.out ?_
      rintro e1 w1 ⟨rfl, j1, k1⟩
      clear QP c0 d0
      have H1 : Hid (SdvAt w1 B1 ⟨some ⟨P, 0, none⟩, v⟩ ∧ OpvAt w1 B2 ⟨kd, tw, cl, sz, it⟩ ∧ SdvAt w1 B3 sz0 ∧ J c1 t1 w1 ∧ AL w1 v cs t rs ∧ Kp w w1) := ⟨H.out.1.kp k1, H.out.2.1.kp' k1, H.out.2.2.1.kp k1, j1, H.out.2.2.2.2.1.kp k1, H.out.2.2.2.2.2.trans k1⟩
      clear j1 k1 H
      have H : Hid _ := H1.out
      clear H1
      have QR : Hid _ := popR_any v rs cs t w1 H.out.2.2.2.2.1.st H.out.2.2.2.2.1.eq H.out.2.2.2.2.1.rt HH.out.2.2.1
      rw [HPN.out.1, HPN.out.2.1, HPN.out.2.2, HC1.out.1, HC1.out.2] at QR
      go_wp2_with (first | (refine wpList_mid_rqv (.tmp 64) rfl B1 1 v rfl H.out.1.rq rfl ?_))
      refine Calls.mono QR.out ?_
      clear QR
      rintro e2 w2 ⟨v', rs', rfl, s2, c2, r2, b2⟩
      have H2 : Hid (SdvAt w2 B1 ⟨some ⟨P, 0, none⟩, v⟩ ∧ OpvAt w2 B2 ⟨kd, tw, cl, sz, it⟩ ∧ SdvAt w2 B3 sz0 ∧ J c1 t1 w2 ∧ AL w2 v' c1 t1 rs' ∧ Kp w w2) := ⟨H.out.1.below b2, H.out.2.1.below b2, H.out.2.2.1.below b2, U.out.below H.out.2.2.2.1 b2, ⟨s2, c2, r2⟩, H.out.2.2.2.2.2.bel b2⟩
      clear s2 c2 r2 b2 H
      go_upto_region 10 with (first | (refine wpList_nil_rqv rfl rfl ?_; intro B4 X hB4 hX bX) | (refine wpList_store_rqv (.tmp 12) (.tmp 67) rfl rfl B4 qz v' rfl rfl hX rfl ?_; intro w3 h3 k3))
      have HB4 : Hid (B3 < B4) := by
        have h1 := hB4.out
        have h2 := (Array.getElem?_eq_some_iff.1 H2.out.2.2.1).1
        show _ < _
        omega
      have H3 : Hid ((SdvAt w3 B1 ⟨some ⟨P, 0, none⟩, v⟩ ∧ OpvAt w3 B2 ⟨kd, tw, cl, sz, it⟩ ∧ SdvAt w3 B3 sz0 ∧ J c1 t1 w3 ∧ AL w3 v' c1 t1 rs' ∧ Kp w w3) ∧ RqvAt w3 B4 v') := by
        have h1 := HB4.out
        have h2 := HO.out
        refine ⟨⟨(H2.out.1.below bX).ch k3 (by omega), (H2.out.2.1.below bX).ch k3 (by omega), (H2.out.2.2.1.below bX).ch k3 (by omega), U.out.ch (U.out.below H2.out.2.2.2.1 bX) k3 (by omega) hX (by decide) (by decide) (by decide), (H2.out.2.2.2.2.1.below bX).ks k3 hX (by decide) (by decide), (H2.out.2.2.2.2.2.bel bX).ch k3 (fun q hq => by omega)⟩, h3⟩
      clear hB4 hX bX h3 k3 H2
      go_upto_region 11 with (first | (refine wpList_load_rqv (.tmp 12) rfl B4 v' rfl H3.out.2 rfl ?_) | (refine wpList_store_sq (.tmp 72) (.tmp 71) rfl rfl B1 ⟨some ⟨P, 0, none⟩, v⟩ v' rfl rfl H3.out.1.1 rfl ?_; intro w4 h4 k4))
      have H : Hid (SdvAt w4 B1 ⟨some ⟨P, 0, none⟩, v'⟩ ∧ OpvAt w4 B2 ⟨kd, tw, cl, sz, it⟩ ∧ SdvAt w4 B3 sz0 ∧ J c1 t1 w4 ∧ AL w4 v' c1 t1 rs' ∧ Kp w w4) := by
        have h2 := HO.out
        exact ⟨h4, H3.out.1.2.1.ch k4 (by omega), H3.out.1.2.2.1.ch k4 (by omega), U.out.ch H3.out.1.2.2.2.1 k4 (by omega) H3.out.1.1 (by decide) (by decide) (by decide), H3.out.1.2.2.2.2.1.ks k4 H3.out.1.1 (by decide) (by decide), H3.out.1.2.2.2.2.2.ch k4 (fun q hq => by omega)⟩
      clear h4 k4 H3 HB4
      go_wp2_with (first | (refine wpList_load_sdv (.tmp 2) rfl B1 ⟨some ⟨P, 0, none⟩, v'⟩ rfl H.out.1 rfl ?_) | (refine wpList_store_sdv (.tmp 4) (.tmp 73) rfl rfl B3 sz0 ⟨some ⟨P, 0, none⟩, v'⟩ rfl rfl H.out.2.2.1 rfl ?_))
      intro w9 h9 k9
      have HF : Hid (SdvAt w9 B3 ⟨some ⟨P, 0, none⟩, v'⟩ ∧ J c1 t1 w9 ∧ AL w9 v' c1 t1 rs' ∧ Kp w w9) := ⟨h9, U.out.ch H.out.2.2.2.1 k9 (by have h1 := HO.out; omega) H.out.2.2.1 (by decide) (by decide) (by decide), H.out.2.2.2.2.1.ks k9 H.out.2.2.1 (by decide) (by decide), H.out.2.2.2.2.2.ch k9 (fun q hq => by have h1 := HO.out; omega)⟩
      clear h9 k9
      go_wp2_with fail
      refine bodyPost_ret (results_sd2 rfl _ _ B3 _ rfl HF.out.1) rfl ?_
      exact ⟨v', rs', c1, t1, by simp [Array.getD], HF.out.2.1, HF.out.2.2.1, HF.out.2.2.2⟩
    · have q2 : (kd == 2) = false := by simpa using h2
      clear h2
      by_cases h3 : kd = 3
      · have q3 : (kd == 3) = true := by simpa using h3
        clear h3
        go_upto_region 13 with fail
        have c0 : W3.cell? ⟨B1, 0, none⟩ = some (.pointer (some ⟨P, 0, none⟩)) := H.out.1.ptr
        have QP : Hid _ := U.out.peek H.out.2.2.2.1
        obtain ⟨pn, hpn⟩ : ∃ pn, popN cs t = pn := ⟨_, rfl⟩
        obtain ⟨pc, hpc⟩ : ∃ pc, popC cs t = pc := ⟨_, rfl⟩
        obtain ⟨pb, hpb⟩ : ∃ pb, anyR cs = pb := ⟨_, rfl⟩
        rw [hpn, hpc, hpb] at QP
        have HPN : Hid (popN cs t = pn ∧ popC cs t = pc ∧ anyR cs = pb) := ⟨hpn, hpc, hpb⟩
        clear hpn hpc hpb
        go_wp2_with fail
        refine Calls.mono QP.out ?_
        rintro e1 w1 ⟨rfl, j1, k1⟩
        clear QP c0 d0
        have H1 : Hid (SdvAt w1 B1 ⟨some ⟨P, 0, none⟩, v⟩ ∧ OpvAt w1 B2 ⟨kd, tw, cl, sz, it⟩ ∧ SdvAt w1 B3 sz0 ∧ J cs t w1 ∧ AL w1 v cs t rs ∧ Kp w w1) := ⟨H.out.1.below k1, H.out.2.1.below k1, H.out.2.2.1.below k1, j1, H.out.2.2.2.2.1.below k1, H.out.2.2.2.2.2.bel k1⟩
        clear j1 k1 H
        have H : Hid _ := H1.out
        clear H1
        have QR : Hid _ := peekR_any v rs cs t w1 H.out.2.2.2.2.1.st H.out.2.2.2.2.1.eq H.out.2.2.2.2.1.rt HH.out.2.2.1
        rw [HPN.out.1, HPN.out.2.1, HPN.out.2.2] at QR
        go_wp2_with (first | (refine wpList_mid_rqv (.tmp 97) rfl B1 1 v rfl H.out.1.rq rfl ?_))
        refine Calls.mono QR.out ?_
        clear QR
        rintro e2 w2 ⟨rfl, k1⟩
        have H1 : Hid (SdvAt w2 B1 ⟨some ⟨P, 0, none⟩, v⟩ ∧ OpvAt w2 B2 ⟨kd, tw, cl, sz, it⟩ ∧ SdvAt w2 B3 sz0 ∧ J cs t w2 ∧ AL w2 v cs t rs ∧ Kp w w2) := ⟨H.out.1.below k1, H.out.2.1.below k1, H.out.2.2.1.below k1, U.out.below H.out.2.2.2.1 k1, H.out.2.2.2.2.1.below k1, H.out.2.2.2.2.2.bel k1⟩
        clear k1 H
        have H : Hid _ := H1.out
        clear H1
        go_wp2_with (first | (refine wpList_load_sdv (.tmp 2) rfl B1 ⟨some ⟨P, 0, none⟩, v⟩ rfl H.out.1 rfl ?_) | (refine wpList_store_sdv (.tmp 4) (.tmp 103) rfl rfl B3 sz0 ⟨some ⟨P, 0, none⟩, v⟩ rfl rfl H.out.2.2.1 rfl ?_))
        intro w9 h9 k9
        have HF : Hid (SdvAt w9 B3 ⟨some ⟨P, 0, none⟩, v⟩ ∧ J cs t w9 ∧ AL w9 v cs t rs ∧ Kp w w9) := ⟨h9, U.out.ch H.out.2.2.2.1 k9 (by have h1 := HO.out; omega) H.out.2.2.1 (by decide) (by decide) (by decide), H.out.2.2.2.2.1.ks k9 H.out.2.2.1 (by decide) (by decide), H.out.2.2.2.2.2.ch k9 (fun q hq => by have h1 := HO.out; omega)⟩
        clear h9 k9
        go_wp2_with fail
        refine bodyPost_ret (results_sd2 rfl _ _ B3 _ rfl HF.out.1) rfl ?_
        exact ⟨v, rs, cs, t, by simp [Array.getD], HF.out.2.1, HF.out.2.2.1, HF.out.2.2.2⟩
      · have q3 : (kd == 3) = false := by simpa using h3
        clear h3
        by_cases h4 : kd = 4
        · have q4 : (kd == 4) = true := by simpa using h4
          clear h4
          go_upto_region 17 with fail
          have c0 : W3.cell? ⟨B1, 0, none⟩ = some (.pointer (some ⟨P, 0, none⟩)) := H.out.1.ptr
          have QP : Hid _ := U.out.tick H.out.2.2.2.1
          obtain ⟨c1, hc1⟩ : ∃ c1, cs.map fillC = c1 := ⟨_, rfl⟩
          rw [hc1] at QP
          have HC1 : Hid (cs.map fillC = c1) := hc1
          clear hc1
          go_wp2_with fail
          refine Calls.mono QP.out ?_
          rintro e1 w1 ⟨rfl, j1, k1⟩
          clear QP c0 d0
          have H1 : Hid (SdvAt w1 B1 ⟨some ⟨P, 0, none⟩, v⟩ ∧ OpvAt w1 B2 ⟨kd, tw, cl, sz, it⟩ ∧ SdvAt w1 B3 sz0 ∧ J c1 t w1 ∧ AL w1 v cs t rs ∧ Kp w w1) := ⟨H.out.1.kp k1, H.out.2.1.kp' k1, H.out.2.2.1.kp k1, j1, H.out.2.2.2.2.1.kp k1, H.out.2.2.2.2.2.trans k1⟩
          clear j1 k1 H
          have H : Hid _ := H1.out
          clear H1
          have QR : Hid _ := tickR_any v rs cs t w1 H.out.2.2.2.2.1.st H.out.2.2.2.2.1.eq H.out.2.2.2.2.1.rt HH.out.2.2.1
          rw [HC1.out] at QR
          go_wp2_with (first | (refine wpList_mid_rqv (.tmp 122) rfl B1 1 v rfl H.out.1.rq rfl ?_))
          refine Calls.mono QR.out ?_
          clear QR
          rintro e2 w2 ⟨v', rs', rfl, s2, c2, r2, b2⟩
          have H2 : Hid (SdvAt w2 B1 ⟨some ⟨P, 0, none⟩, v⟩ ∧ OpvAt w2 B2 ⟨kd, tw, cl, sz, it⟩ ∧ SdvAt w2 B3 sz0 ∧ J c1 t w2 ∧ AL w2 v' c1 t rs' ∧ Kp w w2) := ⟨H.out.1.below b2, H.out.2.1.below b2, H.out.2.2.1.below b2, U.out.below H.out.2.2.2.1 b2, ⟨s2, c2, r2⟩, H.out.2.2.2.2.2.bel b2⟩
          clear s2 c2 r2 b2 H
          go_upto_region 21 with (first | (refine wpList_store_sq (.tmp 125) (.tmp 124) rfl rfl B1 ⟨some ⟨P, 0, none⟩, v⟩ v' rfl rfl H2.out.1 rfl ?_; intro w4 h4 k4))
          have H : Hid (SdvAt w4 B1 ⟨some ⟨P, 0, none⟩, v'⟩ ∧ OpvAt w4 B2 ⟨kd, tw, cl, sz, it⟩ ∧ SdvAt w4 B3 sz0 ∧ J c1 t w4 ∧ AL w4 v' c1 t rs' ∧ Kp w w4) := by
            have h2 := HO.out
            exact ⟨h4, H2.out.2.1.ch k4 (by omega), H2.out.2.2.1.ch k4 (by omega), U.out.ch H2.out.2.2.2.1 k4 (by omega) H2.out.1 (by decide) (by decide) (by decide), H2.out.2.2.2.2.1.ks k4 H2.out.1 (by decide) (by decide), H2.out.2.2.2.2.2.ch k4 (fun q hq => by omega)⟩
          clear h4 k4 H2
          go_wp2_with (first | (refine wpList_load_sdv (.tmp 2) rfl B1 ⟨some ⟨P, 0, none⟩, v'⟩ rfl H.out.1 rfl ?_) | (refine wpList_store_sdv (.tmp 4) (.tmp 153) rfl rfl B3 sz0 ⟨some ⟨P, 0, none⟩, v'⟩ rfl rfl H.out.2.2.1 rfl ?_))
          intro w9 h9 k9
          have HF : Hid (SdvAt w9 B3 ⟨some ⟨P, 0, none⟩, v'⟩ ∧ J c1 t w9 ∧ AL w9 v' c1 t rs' ∧ Kp w w9) := ⟨h9, U.out.ch H.out.2.2.2.1 k9 (by have h1 := HO.out; omega) H.out.2.2.1 (by decide) (by decide) (by decide), H.out.2.2.2.2.1.ks k9 H.out.2.2.1 (by decide) (by decide), H.out.2.2.2.2.2.ch k9 (fun q hq => by have h1 := HO.out; omega)⟩
          clear h9 k9
          go_wp2_with fail
          refine bodyPost_ret (results_sd2 rfl _ _ B3 _ rfl HF.out.1) rfl ?_
          exact ⟨v', rs', c1, t, by simp [Array.getD], HF.out.2.1, HF.out.2.2.1, HF.out.2.2.2⟩
        · have q4 : (kd == 4) = false := by simpa using h4
          clear h4
          by_cases h5 : kd = 5
          · have q5 : (kd == 5) = true := by simpa using h5
            clear h5
            go_upto_region 20 with fail
            obtain ⟨lq, hlq⟩ : ∃ z, lenQ cs cl = z := ⟨_, rfl⟩
            obtain ⟨bq, hbq⟩ : ∃ z, bytQ cs cl = z := ⟨_, rfl⟩
            have HLB : Hid (lenQ cs cl = lq ∧ bytQ cs cl = bq) := ⟨hlq, hbq⟩
            clear hlq hbq d0
            refine MixH.start (fun A => SdvAt A B1 ⟨some ⟨P, 0, none⟩, v⟩ ∧ OpvAt A B2 ⟨kd, tw, cl, sz, it⟩) (by kernel_rfl) ?_
            obtain ⟨wA, hwA⟩ : ∃ W_, W_ = W3.drew := ⟨_, rfl⟩
            have bdr : Below W3.heap.size W3 wA := by rw [hwA]; exact (Below.refl _ _).drew
            have hS : SdvAt wA B1 ⟨some ⟨P, 0, none⟩, v⟩ ∧ OpvAt wA B2 ⟨kd, tw, cl, sz, it⟩ := ⟨H.out.1.below bdr, H.out.2.1.below bdr⟩
            have HA : Hid (SdvAt wA B1 ⟨some ⟨P, 0, none⟩, v⟩ ∧ OpvAt wA B2 ⟨kd, tw, cl, sz, it⟩ ∧ SdvAt wA B3 sz0 ∧ J cs t wA ∧ AL wA v cs t rs ∧ Kp w wA) := ⟨H.out.1.below bdr, H.out.2.1.below bdr, H.out.2.2.1.below bdr, U.out.below H.out.2.2.2.1 bdr, H.out.2.2.2.2.1.below bdr, H.out.2.2.2.2.2.bel bdr⟩
            have QL : Hid _ := U.out.len HA.out.2.2.2.1 cl
            rw [HLB.out.1] at QL
            rw [← hwA]
            clear hwA bdr
            clear H
            have H : Hid _ := HA.out
            clear HA
            refine MixH.takes [false, true, false, true, false, false, true, false, true] 23 (by kernel_rfl) (by kernel_rfl) (by decide) (by kernel_rfl) hS (fun K hK => ?_)
            simp only [Mix.pick]
            repeat (go_big_quiet_step (fail))
            refine wpQuiet_nil (hK _ ?_)
            clear hK K
            refine MixH.take 22 0 _ (.agg (sdA ⟨some ⟨P, 0, none⟩, v⟩)) rfl (by kernel_rfl) (by kernel_rfl) (by kernel_rfl) (by kernel_rfl) (yields_sdv (.tmp 2) rfl B1 0 ⟨some ⟨P, 0, none⟩, v⟩ rfl rfl (fun A hA => hA.1.range 0 4)) hS (fun a' ha => ?_)
            simp only [Act.put, List.setIfInBounds_toArray, List.set_cons_succ, List.set_cons_zero] at ha
            subst ha
            refine MixH.take 21 2 _ (.pointer (some ⟨P, 0, none⟩)) rfl (by kernel_rfl) (by kernel_rfl) (by kernel_rfl) (by kernel_rfl) (yields_qp (.tmp 129) rfl ⟨B1, 0, none⟩ (.pointer (some ⟨P, 0, none⟩)) rfl rfl (fun A hA => hA.1.ptr)) hS (fun a' ha => ?_)
            simp only [Act.put, List.setIfInBounds_toArray, List.set_cons_succ, List.set_cons_zero] at ha
            subst ha
            refine MixH.take 20 4 _ (.int .i64 cl) rfl (by kernel_rfl) (by kernel_rfl) (by kernel_rfl) (by kernel_rfl) (yields_int (.tmp 131) rfl ⟨B2, 2, none⟩ (.int .i64 cl) rfl rfl (fun A hA => hA.2.cell 2)) hS (fun a' ha => ?_)
            simp only [Act.put, List.setIfInBounds_toArray, List.set_cons_succ, List.set_cons_zero] at ha
            subst ha
            refine MixH.take 19 7 _ (.agg (rqA v)) rfl (by kernel_rfl) (by kernel_rfl) (by kernel_rfl) (by kernel_rfl) (yields_rqv (.tmp 134) rfl B1 1 v rfl rfl (fun A hA => hA.1.rq)) hS (fun a' ha => ?_)
            simp only [Act.put, List.setIfInBounds_toArray, List.set_cons_succ, List.set_cons_zero] at ha
            subst ha
            refine MixH.take 18 9 _ (.int .i64 cl) rfl (by kernel_rfl) (by kernel_rfl) (by kernel_rfl) (by kernel_rfl) (yields_int (.tmp 136) rfl ⟨B2, 2, none⟩ (.int .i64 cl) rfl rfl (fun A hA => hA.2.cell 2)) hS (fun a' ha => ?_)
            simp only [Act.put, List.setIfInBounds_toArray, List.set_cons_succ, List.set_cons_zero] at ha
            subst ha
            refine MixH.one [false, false, false, false, false, true] 17 5 _ rfl rfl (by kernel_rfl) (by kernel_rfl) (fun K hK => ?_)
            simp only [Mix.pick]
            go_wp2_with fail
            refine Calls.mono (QL.out) ?_
            rintro e1 w1 ⟨rfl, j1, k1⟩
            have H1 : Hid (SdvAt w1 B1 ⟨some ⟨P, 0, none⟩, v⟩ ∧ OpvAt w1 B2 ⟨kd, tw, cl, sz, it⟩ ∧ SdvAt w1 B3 sz0 ∧ J cs t w1 ∧ AL w1 v cs t rs ∧ Kp w w1) := ⟨H.out.1.below k1, H.out.2.1.below k1, H.out.2.2.1.below k1, j1, H.out.2.2.2.2.1.below k1, H.out.2.2.2.2.2.bel k1⟩
            replace hS : SdvAt w1 B1 ⟨some ⟨P, 0, none⟩, v⟩ ∧ OpvAt w1 B2 ⟨kd, tw, cl, sz, it⟩ := ⟨hS.1.below k1, hS.2.below k1⟩
            clear k1 j1 H
            have H : Hid _ := H1.out
            clear H1
            have QM : Hid _ := lenR_any v rs w1 H.out.2.2.2.2.1.st cl
            rw [H.out.2.2.2.2.1.eq, HLB.out.1] at QM
            clear QL
            go_wp2_with fail
            refine ⟨rfl, hK _ _ hS ?_⟩
            clear hK K
            refine MixH.one [false, false, false, false, false, false, false, false, false, false, true] 16 10 _ rfl rfl (by kernel_rfl) (by kernel_rfl) (fun K hK => ?_)
            simp only [Mix.pick]
            go_wp2_with fail
            refine Calls.mono (QM.out) ?_
            rintro e2 w2 ⟨rfl, k1⟩
            have H1 : Hid (SdvAt w2 B1 ⟨some ⟨P, 0, none⟩, v⟩ ∧ OpvAt w2 B2 ⟨kd, tw, cl, sz, it⟩ ∧ SdvAt w2 B3 sz0 ∧ J cs t w2 ∧ AL w2 v cs t rs ∧ Kp w w2) := ⟨H.out.1.below k1, H.out.2.1.below k1, H.out.2.2.1.below k1, U.out.below H.out.2.2.2.1 k1, H.out.2.2.2.2.1.below k1, H.out.2.2.2.2.2.bel k1⟩
            replace hS : SdvAt w2 B1 ⟨some ⟨P, 0, none⟩, v⟩ ∧ OpvAt w2 B2 ⟨kd, tw, cl, sz, it⟩ := ⟨hS.1.below k1, hS.2.below k1⟩
            clear k1 H
            have H : Hid _ := H1.out
            clear H1
            have QB : Hid _ := U.out.bytes H.out.2.2.2.1 cl
            rw [HLB.out.2] at QB
            clear QM
            go_wp2_with fail
            refine ⟨rfl, hK _ _ hS ?_⟩
            clear hK K
            refine MixH.takes [false, false, false, false, false, false, false, false, false, false, false, true, true, true, false, true, false, false, true, false, true] 10 (by kernel_rfl) (by kernel_rfl) (by decide) (by kernel_rfl) hS (fun K hK => ?_)
            simp only [Mix.pick]
            repeat (go_big_quiet_step (fail))
            refine wpQuiet_nil (hK _ ?_)
            clear hK K
            refine MixH.take 9 14 _ (.pointer (some ⟨P, 0, none⟩)) rfl (by kernel_rfl) (by kernel_rfl) (by kernel_rfl) (by kernel_rfl) (yields_qp (.tmp 141) rfl ⟨B1, 0, none⟩ (.pointer (some ⟨P, 0, none⟩)) rfl rfl (fun A hA => hA.1.ptr)) hS (fun a' ha => ?_)
            simp only [Act.put, List.setIfInBounds_toArray, List.set_cons_succ, List.set_cons_zero] at ha
            subst ha
            refine MixH.take 8 16 _ (.int .i64 cl) rfl (by kernel_rfl) (by kernel_rfl) (by kernel_rfl) (by kernel_rfl) (yields_int (.tmp 143) rfl ⟨B2, 2, none⟩ (.int .i64 cl) rfl rfl (fun A hA => hA.2.cell 2)) hS (fun a' ha => ?_)
            simp only [Act.put, List.setIfInBounds_toArray, List.set_cons_succ, List.set_cons_zero] at ha
            subst ha
            refine MixH.take 7 19 _ (.agg (rqA v)) rfl (by kernel_rfl) (by kernel_rfl) (by kernel_rfl) (by kernel_rfl) (yields_rqv (.tmp 146) rfl B1 1 v rfl rfl (fun A hA => hA.1.rq)) hS (fun a' ha => ?_)
            simp only [Act.put, List.setIfInBounds_toArray, List.set_cons_succ, List.set_cons_zero] at ha
            subst ha
            refine MixH.take 6 21 _ (.int .i64 cl) rfl (by kernel_rfl) (by kernel_rfl) (by kernel_rfl) (by kernel_rfl) (yields_int (.tmp 148) rfl ⟨B2, 2, none⟩ (.int .i64 cl) rfl rfl (fun A hA => hA.2.cell 2)) hS (fun a' ha => ?_)
            simp only [Act.put, List.setIfInBounds_toArray, List.set_cons_succ, List.set_cons_zero] at ha
            subst ha
            refine MixH.one [false, false, false, false, false, false, false, false, false, false, false, false, false, false, false, false, false, true] 5 17 _ rfl rfl (by kernel_rfl) (by kernel_rfl) (fun K hK => ?_)
            simp only [Mix.pick]
            go_wp2_with fail
            refine Calls.mono (QB.out) ?_
            rintro e3 w3 ⟨rfl, j1, k1⟩
            have H1 : Hid (SdvAt w3 B1 ⟨some ⟨P, 0, none⟩, v⟩ ∧ OpvAt w3 B2 ⟨kd, tw, cl, sz, it⟩ ∧ SdvAt w3 B3 sz0 ∧ J cs t w3 ∧ AL w3 v cs t rs ∧ Kp w w3) := ⟨H.out.1.below k1, H.out.2.1.below k1, H.out.2.2.1.below k1, j1, H.out.2.2.2.2.1.below k1, H.out.2.2.2.2.2.bel k1⟩
            replace hS : SdvAt w3 B1 ⟨some ⟨P, 0, none⟩, v⟩ ∧ OpvAt w3 B2 ⟨kd, tw, cl, sz, it⟩ := ⟨hS.1.below k1, hS.2.below k1⟩
            clear k1 j1 H
            have H : Hid _ := H1.out
            clear H1
            have QN : Hid _ := bytesR_any v rs w3 H.out.2.2.2.2.1.st (fun r hr => HH.out.2.2.1.cl r.c (by rw [← H.out.2.2.2.2.1.eq]; exact List.mem_map.2 ⟨r, hr, rfl⟩)) cl
            rw [H.out.2.2.2.2.1.eq, HLB.out.2] at QN
            clear QB
            go_wp2_with fail
            refine ⟨rfl, hK _ _ hS ?_⟩
            clear hK K
            refine MixH.one [false, false, false, false, false, false, false, false, false, false, false, false, false, false, false, false, false, false, false, false, false, false, true] 4 22 _ rfl rfl (by kernel_rfl) (by kernel_rfl) (fun K hK => ?_)
            simp only [Mix.pick]
            go_wp2_with fail
            refine Calls.mono (QN.out) ?_
            rintro e4 w4 ⟨rfl, k1⟩
            have H1 : Hid (SdvAt w4 B1 ⟨some ⟨P, 0, none⟩, v⟩ ∧ OpvAt w4 B2 ⟨kd, tw, cl, sz, it⟩ ∧ SdvAt w4 B3 sz0 ∧ J cs t w4 ∧ AL w4 v cs t rs ∧ Kp w w4) := ⟨H.out.1.below k1, H.out.2.1.below k1, H.out.2.2.1.below k1, U.out.below H.out.2.2.2.1 k1, H.out.2.2.2.2.1.below k1, H.out.2.2.2.2.2.bel k1⟩
            replace hS : SdvAt w4 B1 ⟨some ⟨P, 0, none⟩, v⟩ ∧ OpvAt w4 B2 ⟨kd, tw, cl, sz, it⟩ := ⟨hS.1.below k1, hS.2.below k1⟩
            clear k1 H
            have H : Hid _ := H1.out
            clear H1
            clear QN
            go_wp2_with fail
            refine ⟨rfl, hK _ _ hS ?_⟩
            clear hK K
            refine MixH.takes [false, false, false, false, false, false, false, false, false, false, false, false, false, false, false, false, false, false, false, false, false, false, false, true, true] 2 (by kernel_rfl) (by kernel_rfl) (by decide) (by kernel_rfl) hS (fun K hK => ?_)
            simp only [Mix.pick]
            repeat (go_big_quiet_step (fail))
            refine wpQuiet_nil (hK _ ?_)
            clear hK K
            refine MixH.one [false, false, false, false, false, false, false, false, false, false, false, false, false, false, false, false, false, false, false, false, false, false, false, false, false, true] 1 25 _ rfl rfl (by kernel_rfl) (by kernel_rfl) (fun K hK => ?_)
            simp only [Mix.pick]
            refine wpList_store_sdv (.tmp 4) (.tmp 128) rfl rfl B3 sz0 ⟨some ⟨P, 0, none⟩, v⟩ rfl rfl H.out.2.2.1 rfl ?_
            intro w9 h9 k9
            refine wpList_nil ?_
            replace hS : SdvAt w9 B1 ⟨some ⟨P, 0, none⟩, v⟩ ∧ OpvAt w9 B2 ⟨kd, tw, cl, sz, it⟩ := ⟨hS.1.ch k9 (by have h1 := HO.out; omega), hS.2.ch k9 (by have h1 := HO.out; omega)⟩
            refine ⟨rfl, hK _ _ hS ?_⟩
            clear hK K
            refine MixH.takes [false, false, false, false, false, false, false, false, false, false, false, false, false, false, false, false, false, false, false, false, false, false, false, false, false, false, true] 0 (by kernel_rfl) (by kernel_rfl) (by decide) (by kernel_rfl) hS (fun K hK => ?_)
            simp only [Mix.pick]
            repeat (go_big_quiet_step (fail))
            refine wpQuiet_nil (hK _ ?_)
            clear hK K
            refine MixH.done (by kernel_rfl) ?_
            clear hS
            have HF : Hid (SdvAt w9 B3 ⟨some ⟨P, 0, none⟩, v⟩ ∧ J cs t w9 ∧ AL w9 v cs t rs ∧ Kp w w9) := ⟨h9, U.out.ch H.out.2.2.2.1 k9 (by have h1 := HO.out; omega) H.out.2.2.1 (by decide) (by decide) (by decide), H.out.2.2.2.2.1.ks k9 H.out.2.2.1 (by decide) (by decide), H.out.2.2.2.2.2.ch k9 (fun q hq => by have h1 := HO.out; omega)⟩
            clear h9 k9
            go_wp2_with fail
            refine bodyPost_ret (results_sd2 rfl _ _ B3 _ rfl HF.out.1) rfl ?_
            exact ⟨v, rs, cs, t, by simp [Array.getD], HF.out.2.1, HF.out.2.2.1, HF.out.2.2.2⟩
          · have q5 : (kd == 5) = false := by simpa using h5
            clear h5
            go_wp2_with (first | (refine wpList_load_sdv (.tmp 2) rfl B1 ⟨some ⟨P, 0, none⟩, v⟩ rfl H.out.1 rfl ?_) | (refine wpList_store_sdv (.tmp 4) (.tmp 153) rfl rfl B3 sz0 ⟨some ⟨P, 0, none⟩, v⟩ rfl rfl H.out.2.2.1 rfl ?_))
            intro w9 h9 k9
            have HF : Hid (SdvAt w9 B3 ⟨some ⟨P, 0, none⟩, v⟩ ∧ J cs t w9 ∧ AL w9 v cs t rs ∧ Kp w w9) := ⟨h9, U.out.ch H.out.2.2.2.1 k9 (by have h1 := HO.out; omega) H.out.2.2.1 (by decide) (by decide) (by decide), H.out.2.2.2.2.1.ks k9 H.out.2.2.1 (by decide) (by decide), H.out.2.2.2.2.2.ch k9 (fun q hq => by have h1 := HO.out; omega)⟩
            clear h9 k9
            go_wp2_with fail
            refine bodyPost_ret (results_sd2 rfl _ _ B3 _ rfl HF.out.1) rfl ?_
            exact ⟨v, rs, cs, t, by simp [Array.getD], HF.out.2.1, HF.out.2.2.1, HF.out.2.2.2⟩
end Go.Proofs.Ytcdbhkihbfjedaa
