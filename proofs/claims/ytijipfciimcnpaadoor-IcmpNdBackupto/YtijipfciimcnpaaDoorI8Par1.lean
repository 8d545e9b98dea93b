/-
  ParseND.
-/
import Derived.Test.YtijipfciimcnpaaDoorI8Par0
namespace Go.Proofs.YtijipfciimcnpaaDoor
open Go.RowKit
open I8 (M8)

set_option maxHeartbeats 3200000 in
set_option maxRecDepth 100000 in
theorem parseND_any (m : M8) (da : Option Addr) (n c : Nat) (w : World) (hok : MOk w m da n c) (hd : Dis8 w) (hs : Spe8 w) :
    Calls Tryd.prog 10 #[.agg (mC m da n c)] w fun e w' => e = .returned (.tuple #[.agg (pdC m), .int .i64 (pdE m)]) ∧ Below w.heap.size w w' := by
  obtain ⟨C, hC⟩ : ∃ C, C = mC m da n c := ⟨_, rfl⟩
  have hb1 : Below w.heap.size w (w.alloc (.cells C 31)) := (Below.refl _ _).alloc (Nat.le_refl _) _
  have hm1 : MAt (w.alloc (.cells C 31)) w.heap.size m da n c := by rw [hC]; exact mAt_new w m da n c
  have hb2 : Below (w.alloc (.cells C 31)).heap.size (w.alloc (.cells C 31)) ((w.alloc (.cells C 31)).alloc (.cells ndZ 28)) := (Below.refl _ _).alloc (Nat.le_refl _) _
  have hn2 := ndAt_new (w.alloc (.cells C 31)) ndZ
  rw [World.size_alloc] at hn2
  have hm2 := hm1.below hb2
  have bel := bthen hb1 hb2
  obtain ⟨W1, hW1⟩ : ∃ W1, W1 = w.alloc (.cells C 31) := ⟨_, rfl⟩
  rw [← hW1] at hn2 hm2 bel
  obtain ⟨W, hW⟩ : ∃ W, W = W1.alloc (.cells ndZ 28) := ⟨_, rfl⟩
  rw [← hW] at hn2 hm2 bel
  obtain ⟨B, hB⟩ : ∃ B, B = w.heap.size := ⟨_, rfl⟩
  rw [← hB] at hn2 hm2
  obtain ⟨R, hR⟩ : ∃ R, R = B + 1 := ⟨_, rfl⟩
  rw [← hR] at hn2
  have HB : Hid (w.heap.size = B) := hB.symm
  have HBR : Hid (w.heap.size ≤ R) := by rw [hR, hB]; exact Nat.le_succ _
  have HR1 : Hid (W1.heap.size = R) := by rw [hW1, hR, hB]; exact World.size_alloc _ _
  have HW1 : Hid (w.alloc (.cells C 31) = W1) := hW1.symm
  have HW : Hid (W1.alloc (.cells ndZ 28) = W) := hW.symm
  have HM : Hid (MAt W B m da n c) := hm2
  have HN : Hid (NdAt W R ndZ) := hn2
  have HNB : Hid (R = B + 1) := hR
  have HDL : Hid (m.d.length = n) := hok.dl
  have HSG : Hid (Seg .u8 W da (toI m.d)) := hok.seg.old bel
  have H256 : Hid (∀ x ∈ m.d, x < 256) := hok.d256
  have HCAP : Hid (n ≤ c ∧ c ≤ 9223372036854775807) := ⟨hok.cap, hok.top⟩
  have QC : Hid _ := icCheck_any m da n c W hok.dl hok.sm
  have HD : Hid (Dis8 W) := hd.old bel
  have HS : Hid (Spe8 W) := hs.old bel
  rw [← hC]
  clear hok hd hs hb1 hb2 hm1 hn2 hm2 hW1 hW hB hR hC
  go_enter Tryd.func10, Tryd.ntmps10
  go_upto_region 1 with (first | (refine wpList_alloc_nd rfl rfl ?_; rw [HB.out, HW1.out, HR1.out, HW.out]))
  go_wp2_with (first | (refine wpList_load_m8 (.tmp 1) rfl B m da n c rfl HM.out rfl ?_))
  refine Calls.mono QC.out ?_
  rintro e w1 ⟨rfl, hb1⟩
  have HM1 : Hid (MAt w1 B m da n c) := HM.out.below hb1
  have HN1 : Hid (NdAt w1 R ndZ) := HN.out.below hb1
  have HD1 : Hid (Dis8 w1) := HD.out.old hb1
  have HS1 : Hid (Spe8 w1) := HS.out.old hb1
  have HG1 : Hid (Seg .u8 w1 da (toI m.d)) := HSG.out.old hb1
  have bel1 := bthen bel hb1
  clear hb1 HM HN HD HS HSG bel QC
  by_cases hck : I8.chk m = 0
  · have HCK : Hid (I8.chk m = 0) := hck
    rw [hck]
    clear hck
    have QD : Hid _ := disOf_any m da n c w1 HD1.out
    go_wp2_with (first | (refine wpList_load_m8 (.tmp 1) rfl B m da n c rfl HM1.out rfl ?_))
    refine Calls.mono QD.out ?_
    rintro e w2 ⟨rfl, hb2⟩
    have HM2 : Hid (MAt w2 B m da n c) := HM1.out.below hb2
    have HN2 : Hid (NdAt w2 R ndZ) := HN1.out.below hb2
    have HS2 : Hid (Spe8 w2) := HS1.out.old hb2
    have HG2 : Hid (Seg .u8 w2 da (toI m.d)) := HG1.out.old hb2
    have bel2 := bthen bel1 hb2
    clear hb2 QD HM1 HN1 HD1 HS1 HG1 bel1
    cases hk : isK (mkD m)
    · have HE : Hid (pdE m = 83) := by unfold pdE; rw [if_neg (by rw [HCK.out]; decide), hk]; rfl
      have ed : diOf (mkD m) = #[.int .i64 0, .int .i64 0, .int .i64 0] := by
        have h' : ¬ (mkD m = 1 ∨ mkD m = 2) := by simpa [isK] using hk
        unfold diOf; rw [if_neg (fun e => h' (.inl e)), if_neg (fun e => h' (.inr e))]; rfl
      rw [ed]
      have hb3 : Below w2.heap.size w2 (w2.alloc (.cells #[.int .i64 0, .int .i64 0, .int .i64 0] 85)) := (Below.refl _ _).alloc (Nat.le_refl _) _
      have HN3 : Hid (NdAt (w2.alloc (.cells #[.int .i64 0, .int .i64 0, .int .i64 0] 85)) R ndZ) := HN2.out.below hb3
      have bel3 := bthen bel2 hb3
      clear hk ed hb3
      go_wp2_with (first | (refine wpList_nd0_built rfl rfl ?_) | (refine wpList_store_nd (.tmp 2) (.tmp 26) rfl rfl R ndZ ndZ ndZ_size ndZ_size (ndC_one _ _ _ _ _ _ _ _) rfl rfl HN3.out rfl ?_))
      intro wE hRE kE
      have HRE : Hid (NdAt wE R ndZ) := hRE
      have HFE : Hid (Below w.heap.size w wE) := bel3.trans (kE.below (fun q e => by have e' : q = R := e; have := HBR.out; omega) bel3.size)
      clear hRE kE
      go_wp2
      (try simp only [Exit.inBlock, Exit.then])
      refine bodyPost_ret (results_nd_tmp rfl _ _ R ndZ ndZ_size rfl HRE.out) rfl ?_
      exact ⟨by unfold pdC; rw [HE.out, if_neg (by omega)]; rfl, HFE.out⟩
    · obtain ⟨k, hkk⟩ : ∃ k, k = mkD m := ⟨_, rfl⟩
      obtain ⟨msg, ed, h12⟩ := diOf_link (mkD m) hk
      have ed' : diOf (mkD m) = #[.int .i64 k, .int .i64 msg, .int .i64 k] := by rw [ed, hkk]; rfl
      rw [ed']
      obtain ⟨w3, hw3⟩ : ∃ w3, w3 = w2.alloc (.cells #[.int .i64 k, .int .i64 msg, .int .i64 k] 85) := ⟨_, rfl⟩
      have hb3 : Below w2.heap.size w2 w3 := by rw [hw3]; exact (Below.refl _ _).alloc (Nat.le_refl _) _
      obtain ⟨D, hD⟩ : ∃ D, D = w2.heap.size := ⟨_, rfl⟩
      have HDI : Hid (DiAt w3 D k msg k) := by rw [hw3, hD]; exact diAt_new w2 k msg k
      have HM3 : Hid (MAt w3 B m da n c) := HM2.out.below hb3
      have HN3 : Hid (NdAt w3 R ndZ) := HN2.out.below hb3
      have HS3 : Hid (Spe8 w3) := HS2.out.old hb3
      have HG3 : Hid (Seg .u8 w3 da (toI m.d)) := HG2.out.old hb3
      have bel3 := bthen bel2 hb3
      have HW3 : Hid (w2.alloc (.cells #[.int .i64 k, .int .i64 msg, .int .i64 k] 85) = w3) := hw3.symm
      have HDS : Hid (w2.heap.size = D) := hD.symm
      have HK : Hid (k = mkD m) := hkk
      have HKK : Hid (isK (mkD m) = true) := hk
      have H12 : Hid (k = 1 ∨ k = 2) := by rw [hkk]; exact h12
      clear hk hkk ed ed' h12 hw3 hD hb3 HM2 HN2 HS2 HG2 bel2
      go_upto_region 7 with fail
      rw [HDS.out, HW3.out]
      have c4 : w3.cell? ⟨B, 4, none⟩ = some (.slice da n c) := HM3.out.c4
      have QA : Hid _ := at_any da n c w3 HCAP.out.1 HCAP.out.2
      go_wp2_with fail
      refine Calls.mono QA.out ?_
      rintro e w4 ⟨rfl, hw4⟩
      have hb4 : Below w3.heap.size w3 w4 := by rw [hw4]; exact (Below.refl _ _).alloc (Nat.le_refl _) _
      obtain ⟨U, hU⟩ : ∃ U, U = w3.heap.size := ⟨_, rfl⟩
      rw [← hU]
      have HCU : Hid (Cur w4 U (cutA da 0 n) m.d.length 0) := by rw [hw4, hU, HDL.out]; exact cur_new w3 _ n _
      have HDI4 : Hid (DiAt w4 D k msg k) := HDI.out.below hb4
      have HM4 : Hid (MAt w4 B m da n c) := HM3.out.below hb4
      have HN4 : Hid (NdAt w4 R ndZ) := HN3.out.below hb4
      have HS4 : Hid (Spe8 w4) := HS3.out.old hb4
      have HG4 : Hid (Seg .u8 w4 (cutA da 0 n) (toI m.d)) := cutA_seg n HDL.out (HG3.out.old hb4)
      have HIN : Hid (In U (cutA da 0 n) (toI m.d).length) := by
        rw [hU]; exact (cutA_seg n HDL.out HG3.out).lt
      have HGU : Hid (3 < U) := by rw [hU]; exact HS3.out.lt
      have HLT : Hid (B < U ∧ R < U ∧ D < U) := by rw [hU]; exact ⟨HM3.out.lt, HN3.out.lt, HDI.out.lt⟩
      have HUW : Hid (w.heap.size ≤ U) := by rw [hU]; exact bel3.size
      have bel4 := bthen bel3 hb4
      have HLE : Hid (m.d.length ≤ 65535) := by
        have := (I8.chk_zero m HCK.out).2.2
        show _ ≤ _
        omega
      have QT : Hid _ := takeTarget_any U (cutA da 0 n) m.d w4 HCU.out HIN.out HG4.out H256.out HLE.out HS4.out HGU.out
      clear hw4 hb4 hU QA c4 HDI HM3 HN3 HS3 HG3 bel3
      go_wp2_with fail
      refine Calls.mono QT.out ?_
      rintro e w5 ⟨rfl, k5, hcu5⟩
      have b5 := ch_below k5 HCU.out.lt
      have hne5 : ∀ q, q < U → ¬ (fun q => q = U) q := fun q h e => by have e' : q = U := e; omega
      have HDI5 : Hid (DiAt w5 D k msg k) := HDI4.out.ch k5 (hne5 _ HLT.out.2.2)
      have HM5 : Hid (MAt w5 B m da n c) := HM4.out.ch k5 (hne5 _ HLT.out.1)
      have HN5 : Hid (NdAt w5 R ndZ) := HN4.out.ch k5 (hne5 _ HLT.out.2.1)
      have HG5 : Hid (Seg .u8 w5 (cutA da 0 n) (toI m.d)) := HG4.out.below HIN.out b5
      have bel5 : Below w.heap.size w w5 := bel4.trans (b5.mono HUW.out)
      have HCU5 : Hid (tgE m.d = 0 → Cur w5 U (cutA da 0 n) m.d.length 16) := hcu5
      have HU5 : Hid (U < w5.heap.size) := Nat.lt_of_lt_of_le HCU.out.lt k5.size
      obtain ⟨wT, hwT⟩ : ∃ wT, wT = w5.alloc (.cells (ipCells 0 (fun _ => 0)) 24) := ⟨_, rfl⟩
      have hbT : Below w5.heap.size w5 wT := by rw [hwT]; exact (Below.refl _ _).alloc (Nat.le_refl _) _
      obtain ⟨T, hT⟩ : ∃ T, T = w5.heap.size := ⟨_, rfl⟩
      have HTR : Hid (IpRow wT T (ipCells 0 (fun _ => 0))) := by rw [hwT, hT]; exact heap_alloc_new _ _
      have HWT : Hid (w5.alloc (.cells (ipCells 0 (fun _ => 0)) 24) = wT) := hwT.symm
      have HTS : Hid (w5.heap.size = T) := hT.symm
      have HUT : Hid (U < T) := by rw [hT]; exact HU5.out
      have HDIT : Hid (DiAt wT D k msg k) := HDI5.out.below hbT
      have HMT : Hid (MAt wT B m da n c) := HM5.out.below hbT
      have HNT : Hid (NdAt wT R ndZ) := HN5.out.below hbT
      have HGT : Hid (Seg .u8 wT (cutA da 0 n) (toI m.d)) := HG5.out.old hbT
      have HCUT : Hid (tgE m.d = 0 → Cur wT U (cutA da 0 n) m.d.length 16) := fun h => (HCU5.out h).below hbT
      have belT := bthen bel5 hbT
      clear k5 hcu5 b5 hne5 QT HDI4 HM4 HN4 HS4 HG4 bel4 hwT hbT hT HDI5 HM5 HN5 HG5 bel5 HCU5 HU5 HCU
      go_upto_region 9 with (first | (refine wpList_alloc_ip rfl rfl ?_; rw [HTS.out, HWT.out]) | (refine wpList_store_ip (.tmp 8) (.tmp 33) rfl rfl T 0 (tgV m.d) (fun _ => 0) (tgY m.d) rfl rfl HTR.out rfl ?_))
      intro w6 hR6 k6
      have b6 := ch_below k6 HTR.out.lt
      have hne6 : ∀ q, q ≤ U → ¬ (fun q => q = T) q := fun q h e => by have e' : q = T := e; have := HUT.out; omega
      have HT6 : Hid (IpRow w6 T (ipCells (tgV m.d) (tgY m.d))) := hR6
      have HDI6 : Hid (DiAt w6 D k msg k) := HDIT.out.ch k6 (hne6 _ (Nat.le_of_lt HLT.out.2.2))
      have HM6 : Hid (MAt w6 B m da n c) := HMT.out.ch k6 (hne6 _ (Nat.le_of_lt HLT.out.1))
      have HN6 : Hid (NdAt w6 R ndZ) := HNT.out.ch k6 (hne6 _ (Nat.le_of_lt HLT.out.2.1))
      have HG6 : Hid (Seg .u8 w6 (cutA da 0 n) (toI m.d)) := HGT.out.below (HIN.out.mono (Nat.le_of_lt HUT.out)) b6
      have HCU6 : Hid (tgE m.d = 0 → Cur w6 U (cutA da 0 n) m.d.length 16) := fun h => (HCUT.out h).ch k6 (hne6 _ (Nat.le_refl _))
      have HTW : Hid (w.heap.size ≤ T) := Nat.le_of_lt (Nat.lt_of_le_of_lt HUW.out HUT.out)
      have bel6 : Below w.heap.size w w6 := belT.trans (b6.mono HTW.out)
      clear hR6 k6 b6 hne6 HTR HDIT HMT HNT HGT HCUT belT
      by_cases hte : tgE m.d = 0
      · have HTE : Hid (tgE m.d = 0) := hte
        have ev : tgV m.d = 6 := by unfold tgV; rw [if_pos hte]
        have ey : tgY m.d = tgX m.d := by unfold tgY; rw [if_pos hte]
        rw [ev, ey] at HT6 ⊢
        rw [hte]
        have HBT6 : Hid (Boxed w6 T 6 (tgX m.d)) := ipRow_boxed HT6.out
        have HC6 : Hid (Cur w6 U (cutA da 0 n) m.d.length 16) := HCU6.out hte
        have h16 : 16 ≤ m.d.length := by
          by_cases h : m.d.length < 16
          · unfold tgE at hte; rw [if_pos h] at hte; exact absurd hte (by omega)
          · omega
        obtain ⟨L, hL⟩ : ∃ L, L = lkM m := ⟨_, rfl⟩
        have eL : lk m.d k m.d.length 16 false (fun _ => 0) = L := by rw [hL, HK.out]; rfl
        have QL : Hid _ := takeLink_any U (cutA da 0 n) m.d k 16 w6 HC6.out h16 HIN.out HG6.out H256.out HLE.out
        rw [eL] at QL
        have HLL : Hid (L = lkM m) := hL
        have d2 : w6.cell? ⟨D, 2, none⟩ = some (.int .i64 k) := HDI6.out.c2
        clear hte ev ey h16 hL eL HCU6
        go_wp2_with fail
        refine Calls.mono QL.out ?_
        rintro e w7 ⟨rfl, k7⟩
        have b7 := ch_below k7 HC6.out.lt
        have hne7 : ∀ q, q < U → ¬ (fun q => q = U) q := fun q h e => by have e' : q = U := e; omega
        have HDI7 : Hid (DiAt w7 D k msg k) := HDI6.out.ch k7 (hne7 _ HLT.out.2.2)
        have HM7 : Hid (MAt w7 B m da n c) := HM6.out.ch k7 (hne7 _ HLT.out.1)
        have HN7 : Hid (NdAt w7 R ndZ) := HN6.out.ch k7 (hne7 _ HLT.out.2.1)
        have HT7 : Hid (IpRow w7 T (ipCells 6 (tgX m.d))) := HT6.out.ch k7 (fun e => by have e' : T = U := e; have := HUT.out; omega)
        have bel7 : Below w.heap.size w w7 := bel6.trans (b7.mono HUW.out)
        obtain ⟨wM, hwM⟩ : ∃ wM, wM = w7.alloc (.cells (macC (fun _ => 0)) 26) := ⟨_, rfl⟩
        have hbM : Below w7.heap.size w7 wM := by rw [hwM]; exact (Below.refl _ _).alloc (Nat.le_refl _) _
        obtain ⟨M, hM⟩ : ∃ M, M = w7.heap.size := ⟨_, rfl⟩
        have HMR : Hid (McAt wM M (fun _ => 0)) := by rw [hwM, hM]; exact mcAt_new _ _
        have HWM : Hid (w7.alloc (.cells (macC (fun _ => 0)) 26) = wM) := hwM.symm
        have HMS : Hid (w7.heap.size = M) := hM.symm
        have HTM : Hid (T < M) := by rw [hM]; exact HT7.out.lt
        have HDIM : Hid (DiAt wM D k msg k) := HDI7.out.below hbM
        have HMM : Hid (MAt wM B m da n c) := HM7.out.below hbM
        have HNM : Hid (NdAt wM R ndZ) := HN7.out.below hbM
        have HTMr : Hid (IpRow wM T (ipCells 6 (tgX m.d))) := HT7.out.below hbM
        have belM := bthen bel7 hbM
        clear k7 b7 hne7 QL HDI6 HM6 HN6 HG6 HT6 HBT6 HC6 bel6 d2 hwM hbM hM HDI7 HM7 HN7 HT7 bel7
        go_upto_region 12 with (first | (refine wpList_alloc_mac rfl rfl ?_; rw [HMS.out, HWM.out]) | (refine wpList_store_mc (.tmp 10) (.tmp 44) rfl rfl M (fun _ => 0) L.1 rfl rfl HMR.out rfl ?_))
        intro w8 hR8 k8
        have b8 := ch_below k8 HMR.out.lt
        have hne8 : ∀ q, q ≤ T → ¬ (fun q => q = M) q := fun q h e => by have e' : q = M := e; have := HTM.out; omega
        have hlt8 := HLT.out
        have hut8 := HUT.out
        have HM8 : Hid (McAt w8 M L.1) := hR8
        have HDI8 : Hid (DiAt w8 D k msg k) := HDIM.out.ch k8 (hne8 _ (by omega))
        have HB8 : Hid (MAt w8 B m da n c) := HMM.out.ch k8 (hne8 _ (by omega))
        have HN8 : Hid (NdAt w8 R ndZ) := HNM.out.ch k8 (hne8 _ (by omega))
        have HT8 : Hid (IpRow w8 T (ipCells 6 (tgX m.d))) := HTMr.out.ch k8 (hne8 _ (Nat.le_refl _))
        have HMW : Hid (w.heap.size ≤ M) := Nat.le_of_lt (Nat.lt_of_le_of_lt HTW.out HTM.out)
        have bel8 : Below w.heap.size w w8 := belM.trans (b8.mono HMW.out)
        clear hR8 k8 b8 hne8 hlt8 hut8 HMR HDIM HMM HNM HTMr belM
        by_cases hle : L.2.2 = 0
        · have HE : Hid (pdE m = 0) := by unfold pdE; rw [if_neg (by rw [HCK.out]; decide), HKK.out, if_pos rfl, if_neg (fun h => h HTE.out), ← HLL.out, hle]; rfl
          rw [hle]
          obtain ⟨lm, hlm⟩ : ∃ lm, lm = L.1 := ⟨_, rfl⟩
          obtain ⟨lh, hlh⟩ : ∃ lh, lh = L.2.1 := ⟨_, rfl⟩
          rw [← hlm] at HM8 ⊢
          rw [← hlh]
          have HLM : Hid (lm = (lkM m).1 ∧ lh = (lkM m).2.1) := ⟨by rw [hlm, HLL.out], by rw [hlh, HLL.out]⟩
          have HBT8 : Hid (Boxed w8 T 6 (tgX m.d)) := ipRow_boxed HT8.out
          have d0 : w8.cell? ⟨D, 0, none⟩ = some (.int .i64 k) := HDI8.out.cell 0
          obtain ⟨wN, hwN⟩ : ∃ wN, wN = w8.alloc (.cells ndZ 28) := ⟨_, rfl⟩
          have hbN : Below w8.heap.size w8 wN := by rw [hwN]; exact (Below.refl _ _).alloc (Nat.le_refl _) _
          obtain ⟨N, hN⟩ : ∃ N, N = w8.heap.size := ⟨_, rfl⟩
          have HNR : Hid (NdAt wN N ndZ) := by rw [hwN, hN]; exact ndAt_new _ _
          have HWN : Hid (w8.alloc (.cells ndZ 28) = wN) := hwN.symm
          have HNS : Hid (w8.heap.size = N) := hN.symm
          have HNW : Hid (w.heap.size ≤ N ∧ B < N ∧ R < N) := by rw [hN]; exact ⟨bel8.size, HB8.out.lt, HN8.out.lt⟩
          have HBN : Hid (MAt wN B m da n c) := HB8.out.below hbN
          have HNN : Hid (NdAt wN R ndZ) := HN8.out.below hbN
          have belN := bthen bel8 hbN
          clear hle hlm hlh hwN hbN hN HDI8 HB8 HN8 HT8 bel8
          go_upto_region 15 with (first | (refine wpList_load_ip (.tmp 8) rfl T 6 (tgX m.d) rfl HBT8.out rfl ?_) | (refine wpList_load_mc (.tmp 10) rfl M lm rfl HM8.out rfl ?_) | (refine wpList_ndv_built (.tmp 52) (.tmp 53) (.tmp 54) (.tmp 55) rfl k 6 (tgX m.d) lh lm rfl rfl rfl rfl rfl ?_) | (refine wpList_alloc_nd rfl rfl ?_; rw [HNS.out, HWN.out]) | (refine wpList_store_nd (.tmp 12) (.tmp 56) rfl rfl N ndZ (ndC k 6 (tgX m.d) false false false lh lm) ndZ_size (ndC_size _ _ _ _ _ _ _ _) (ndC_one _ _ _ _ _ _ _ _) rfl rfl HNR.out rfl ?_))
          intro w9 hR9 k9
          have b9 := ch_below k9 HNR.out.lt
          have HN9 : Hid (NdAt w9 N (ndC k 6 (tgX m.d) false false false lh lm)) := hR9
          have HB9 : Hid (MAt w9 B m da n c) := HBN.out.ch k9 (fun e => by have e' : B = N := e; have := HNW.out; omega)
          have HR9 : Hid (NdAt w9 R ndZ) := HNN.out.ch k9 (fun e => by have e' : R = N := e; have := HNW.out; omega)
          have bel9 : Below w.heap.size w w9 := belN.trans (b9.mono HNW.out.1)
          have n0 : w9.cell? ⟨N, 0, none⟩ = some (.int .i64 k) := HN9.out.cell 0
          clear hR9 k9 b9 HNR HBN HNN belN d0 HM8 HBT8
          by_cases hk2 : k = 2
          · subst hk2
            have r3 : w9.cell? ⟨B, 3, none⟩ = some (.int .i64 m.r) := HB9.out.c3
            have n18 : w9.cell? ⟨N, 18, none⟩ = some (.bool false) := HN9.out.cell 18
            have n19 : w9.cell? ⟨N, 19, none⟩ = some (.bool false) := HN9.out.cell 19
            have n20 : w9.cell? ⟨N, 20, none⟩ = some (.bool false) := HN9.out.cell 20
            have f18 : w9.frozen? ⟨N, 18, none⟩ = false := HN9.out.fz 18
            have f19 : w9.frozen? ⟨N, 19, none⟩ = false := HN9.out.fz 19
            have f20 : w9.frozen? ⟨N, 20, none⟩ = false := HN9.out.fz 20
            go_wp2
            go_region
            obtain ⟨b1, hb1⟩ : ∃ b1, b1 = (bits .and .i64 m.r 2147483648 != 0) := ⟨_, rfl⟩
            obtain ⟨b2, hb2⟩ : ∃ b2, b2 = (bits .and .i64 m.r 1073741824 != 0) := ⟨_, rfl⟩
            obtain ⟨b3, hb3⟩ : ∃ b3, b3 = (bits .and .i64 m.r 536870912 != 0) := ⟨_, rfl⟩
            rw [← hb1, ← hb2, ← hb3]
            have HBB : Hid (b1 = fB m.r 2147483648 ∧ b2 = fB m.r 1073741824 ∧ b3 = fB m.r 536870912) := ⟨hb1, hb2, hb3⟩
            have hs := HN9.out.bits b1 b2 b3
            obtain ⟨wS, hwS⟩ : ∃ wS, wS = ((w9.setCell ⟨N, 18, none⟩ (.bool b1)).setCell ⟨N, 19, none⟩ (.bool b2)).setCell ⟨N, 20, none⟩ (.bool b3) := ⟨_, rfl⟩
            rw [← hwS] at hs ⊢
            have bS := ch_below hs.2 HN9.out.lt
            have belS : Below w.heap.size w wS := bel9.trans (bS.mono HNW.out.1)
            have HRS : NdAt wS R ndZ := HR9.out.ch hs.2 (fun e => by have e' : R = N := e; have := HNW.out; omega)
            have HND : Hid (NdAt wS.drew N (ndC 2 6 (tgX m.d) b1 b2 b3 lh lm)) := hs.1.below (Below.refl _ _).drew
            have HRD : Hid (NdAt wS.drew R ndZ) := HRS.below (Below.refl _ _).drew
            have belD : Below w.heap.size w wS.drew := belS.drew
            have HEQ : Hid (pdC m = ndC 2 6 (tgX m.d) b1 b2 b3 lh lm) := by
              have e2 : (mkD m == 2) = true := by rw [← HK.out]; rfl
              unfold pdC; rw [HE.out, if_pos rfl]; unfold ndM; rw [e2, ← HK.out, ← HLM.out.1, ← HLM.out.2, HBB.out.1, HBB.out.2.1, HBB.out.2.2]; rfl
            clear hb1 hb2 hb3 hs hwS bS belS HRS n0 r3 n18 n19 n20 f18 f19 f20 HN9 HB9 HR9 bel9 HBB
            go_wp2_with (first | (refine wpList_load_nd (.tmp 12) rfl N (ndC 2 6 (tgX m.d) b1 b2 b3 lh lm) (ndC_size _ _ _ _ _ _ _ _) rfl HND.out rfl ?_) | (refine wpList_store_nd (.tmp 2) (.tmp 75) rfl rfl R ndZ (ndC 2 6 (tgX m.d) b1 b2 b3 lh lm) ndZ_size (ndC_size _ _ _ _ _ _ _ _) (ndC_one _ _ _ _ _ _ _ _) rfl rfl HRD.out rfl ?_))
            intro wE hRE kE
            have HRE : Hid (NdAt wE R (ndC 2 6 (tgX m.d) b1 b2 b3 lh lm)) := hRE
            have HFE : Hid (Below w.heap.size w wE) := belD.trans (kE.below (fun q e => by have e' : q = R := e; have := HBR.out; omega) belD.size)
            clear hRE kE
            go_wp2
            (try simp only [Exit.inBlock, Exit.then])
            refine bodyPost_ret (results_nd_tmp rfl _ _ R _ (ndC_size _ _ _ _ _ _ _ _) rfl HRE.out) rfl ?_
            exact ⟨by rw [HEQ.out, HE.out]; rfl, HFE.out⟩
          · have ek : (k == 2) = false := beq_eq_false_iff_ne.2 hk2
            have HEQ : Hid (pdC m = ndC k 6 (tgX m.d) false false false lh lm) := by
              have e2 : (mkD m == 2) = false := by rw [← HK.out]; exact ek
              unfold pdC; rw [HE.out, if_pos rfl]; unfold ndM; rw [e2, ← HK.out, ← HLM.out.1, ← HLM.out.2]; rfl
            clear hk2
            go_wp2_with (first | (refine wpList_load_nd (.tmp 12) rfl N (ndC k 6 (tgX m.d) false false false lh lm) (ndC_size _ _ _ _ _ _ _ _) rfl HN9.out rfl ?_) | (refine wpList_store_nd (.tmp 2) (.tmp 75) rfl rfl R ndZ (ndC k 6 (tgX m.d) false false false lh lm) ndZ_size (ndC_size _ _ _ _ _ _ _ _) (ndC_one _ _ _ _ _ _ _ _) rfl rfl HR9.out rfl ?_))
            intro wE hRE kE
            have HRE : Hid (NdAt wE R (ndC k 6 (tgX m.d) false false false lh lm)) := hRE
            have HFE : Hid (Below w.heap.size w wE) := bel9.trans (kE.below (fun q e => by have e' : q = R := e; have := HBR.out; omega) bel9.size)
            clear hRE kE
            go_wp2
            (try simp only [Exit.inBlock, Exit.then])
            refine bodyPost_ret (results_nd_tmp rfl _ _ R _ (ndC_size _ _ _ _ _ _ _ _) rfl HRE.out) rfl ?_
            exact ⟨by rw [HEQ.out, HE.out]; rfl, HFE.out⟩
        · have HE : Hid (pdE m = L.2.2) := by unfold pdE; rw [if_neg (by rw [HCK.out]; decide), HKK.out, if_pos rfl, if_neg (fun h => h HTE.out), ← HLL.out]; rfl
          have HLE2 : Hid (¬ L.2.2 = 0) := hle
          have hne : (L.2.2 == 0) = false := beq_eq_false_iff_ne.2 hle
          obtain ⟨le, hle2⟩ : ∃ le, le = L.2.2 := ⟨_, rfl⟩
          rw [← hle2] at HE HLE2 hne ⊢
          clear hle hle2
          go_wp2_with (first | (refine wpList_nd0_built rfl rfl ?_) | (refine wpList_store_nd (.tmp 2) (.tmp 49) rfl rfl R ndZ ndZ ndZ_size ndZ_size (ndC_one _ _ _ _ _ _ _ _) rfl rfl HN8.out rfl ?_))
          intro wE hRE kE
          have HRE : Hid (NdAt wE R ndZ) := hRE
          have HFE : Hid (Below w.heap.size w wE) := bel8.trans (kE.below (fun q e => by have e' : q = R := e; have := HBR.out; omega) bel8.size)
          clear hRE kE
          go_wp2
          (try simp only [Exit.inBlock, Exit.then])
          refine bodyPost_ret (results_nd_tmp rfl _ _ R ndZ ndZ_size rfl HRE.out) rfl ?_
          exact ⟨by unfold pdC; rw [HE.out, if_neg HLE2.out]; rfl, HFE.out⟩
      · have HE : Hid (pdE m = tgE m.d) := by unfold pdE; rw [if_neg (by rw [HCK.out]; decide), HKK.out, if_pos rfl, if_pos hte]; rfl
        have HTE : Hid (¬ tgE m.d = 0) := hte
        have hne : (tgE m.d == 0) = false := beq_eq_false_iff_ne.2 hte
        obtain ⟨te, hte2⟩ : ∃ te, te = tgE m.d := ⟨_, rfl⟩
        rw [← hte2] at HE HTE hne ⊢
        clear hte hte2
        go_wp2_with (first | (refine wpList_nd0_built rfl rfl ?_) | (refine wpList_store_nd (.tmp 2) (.tmp 37) rfl rfl R ndZ ndZ ndZ_size ndZ_size (ndC_one _ _ _ _ _ _ _ _) rfl rfl HN6.out rfl ?_))
        intro wE hRE kE
        have HRE : Hid (NdAt wE R ndZ) := hRE
        have HFE : Hid (Below w.heap.size w wE) := bel6.trans (kE.below (fun q e => by have e' : q = R := e; have := HBR.out; omega) bel6.size)
        clear hRE kE
        go_wp2
        (try simp only [Exit.inBlock, Exit.then])
        refine bodyPost_ret (results_nd_tmp rfl _ _ R ndZ ndZ_size rfl HRE.out) rfl ?_
        exact ⟨by unfold pdC; rw [HE.out, if_neg HTE.out]; rfl, HFE.out⟩
  · have HE : Hid (pdE m = ((I8.chk m : Nat) : Int)) := by unfold pdE; rw [if_pos hck]; rfl
    have hne : (((I8.chk m : Nat) : Int) == 0) = false := beq_eq_false_iff_ne.2 (by omega)
    have HCK : Hid (¬ ((I8.chk m : Nat) : Int) = 0) := by show ¬ _; omega
    obtain ⟨ck, hckk⟩ : ∃ ck, ck = ((I8.chk m : Nat) : Int) := ⟨_, rfl⟩
    rw [← hckk] at HE hne HCK ⊢
    clear hck hckk
    go_wp2_with (first | (refine wpList_nd0_built rfl rfl ?_) | (refine wpList_store_nd (.tmp 2) (.tmp 17) rfl rfl R ndZ ndZ ndZ_size ndZ_size (ndC_one _ _ _ _ _ _ _ _) rfl rfl HN1.out rfl ?_))
    intro wE hRE kE
    have HRE : Hid (NdAt wE R ndZ) := hRE
    have HFE : Hid (Below w.heap.size w wE) := bel1.trans (kE.below (fun q e => by have e' : q = R := e; have := HBR.out; omega) bel1.size)
    clear hRE kE
    go_wp2
    (try simp only [Exit.inBlock, Exit.then])
    refine bodyPost_ret (results_nd_tmp rfl _ _ R ndZ ndZ_size rfl HRE.out) rfl ?_
    exact ⟨by unfold pdC; rw [HE.out, if_neg HCK.out]; rfl, HFE.out⟩
end Go.Proofs.YtijipfciimcnpaaDoor
