/-
  IcmpBack: the walk.
-/
import Derived.Test.YtkhalknpfikghaaDoorI8Awake
namespace Go.Proofs.YtkhalknpfikghaaDoor
open Go.RowKit
open I8 (M8)

theorem sE_psX {m : M8} {V U : Int} (h : I8.sE m (six6 V U) = 0) : I8.chk m = 0 ∧ psX m.v V U = 0 := by
  rw [sE_split] at h
  split at h
  · exact ⟨by assumption, h⟩
  · rename_i hc; exact absurd h hc
theorem pE_psX {v : Int} {V U : Int} {p bs : List Nat} (h : I8.pE v (six6 V U) p bs = 0) : psX v V U = 0 := by
  obtain ⟨_, _, h3, _, _⟩ := I8.pE_zero h
  unfold psX
  rw [if_neg h3]
theorem ser_two (m : M8) (p : List Nat) : (I8.ser m p).getD 2 0 = I8.sm m p / 256 ∧ (I8.ser m p).getD 3 0 = I8.sm m p % 256 := ⟨rfl, rfl⟩
theorem Boxed.ch {S : Nat → Prop} {w w' : World} {B : Nat} {V : Int} {x : Nat → Nat} (h : Boxed w B V x) (k : Ch S w w') (hS : ¬ S B) : Boxed w' B V x := ⟨k.cell h.ver hS, fun i hi => k.cell (h.byte i hi) hS⟩
set_option maxHeartbeats 6400000 in
set_option maxRecDepth 100000 in
theorem icmpBack.walk (w : World) (hw : Wid8 w) (hd : Dis8 w) (v V : Int) (x : Nat → Nat) (hx : ∀ i, i < 16 → x i < 256) (U : Int) (y : Nat → Nat) (hy : ∀ i, i < 16 → y i < 256) (m : M8) (da : Option Addr) (n c : Nat) (k : MOk w m da n c) (a : Option Addr) (len cap : Nat) (bs0 : List Nat) (hn : bs0.length = len) (hs : Seg .u8 w a (toI bs0)) (h256 : ∀ z ∈ bs0, z < 256) (hcap : len ≤ cap) :
    Calls Tryd.prog 3 #[.int .i64 v, .agg (ipCells V x), .agg (ipCells U y), .agg (mC m da n c), .slice a len cap] w fun e w' => e = .returned (.bool true) ∧ Below w.heap.size w w' := by
  obtain ⟨A, hA⟩ : ∃ A, A = ipCells V x := ⟨_, rfl⟩
  obtain ⟨C, hC⟩ : ∃ C, C = ipCells U y := ⟨_, rfl⟩
  obtain ⟨M, hM⟩ : ∃ M, M = mC m da n c := ⟨_, rfl⟩
  have hx1 := boxed_new w V x 24
  have hy1 := boxed_new (w.alloc (.cells (ipCells V x) 24)) U y 24
  rw [World.size_alloc] at hy1
  have hx2 := hx1.old ((Below.refl _ _).alloc (Nat.le_refl _) (.cells (ipCells U y) 24))
  clear hx1
  rw [← hA] at hx2 hy1 ⊢
  rw [← hC] at hx2 hy1 ⊢
  have s2 : ((w.alloc (.cells A 24)).alloc (.cells C 24)).heap.size = w.heap.size + 1 + 1 := by simp
  have hr := mAt_new ((w.alloc (.cells A 24)).alloc (.cells C 24)) m da n c
  rw [s2, ← hM] at hr
  have b3 : Below ((w.alloc (.cells A 24)).alloc (.cells C 24)).heap.size ((w.alloc (.cells A 24)).alloc (.cells C 24)) (((w.alloc (.cells A 24)).alloc (.cells C 24)).alloc (.cells M 27)) := (Below.refl _ _).alloc (Nat.le_refl _) _
  have hx3 := hx2.old b3
  have hy3 := hy1.old b3
  have bel : Below w.heap.size w (((w.alloc (.cells A 24)).alloc (.cells C 24)).alloc (.cells M 27)) := (((Below.refl _ _).alloc (Nat.le_refl _) _).alloc (by simp) _).alloc (by simp; omega) _
  clear hx2 hy1 b3 s2
  obtain ⟨W, hW⟩ : ∃ W, W = ((w.alloc (.cells A 24)).alloc (.cells C 24)).alloc (.cells M 27) := ⟨_, rfl⟩
  rw [← hW] at hr hx3 hy3 bel
  obtain ⟨B, hB⟩ : ∃ B, B = w.heap.size := ⟨_, rfl⟩
  have HB : Hid (w.heap.size = B) := hB.symm
  rw [← hB] at hr hx3 hy3
  obtain ⟨O, hO⟩ : ∃ O, O = B + 1 + 1 := ⟨_, rfl⟩
  rw [← hO] at hr
  have HW : Hid (((w.alloc (.cells A 24)).alloc (.cells C 24)).alloc (.cells M 27) = W) := hW.symm
  have HO : Hid (B + 1 + 1 = O) := hO.symm
  have HR : Hid (MAt W O m da n c) := hr
  have HXB : Hid (Boxed W B V x) := hx3
  have HYB : Hid (Boxed W (B + 1) U y) := hy3
  have HXX : Hid (∀ i, i < 16 → x i < 256) := hx
  have HYY : Hid (∀ i, i < 16 → y i < 256) := hy
  have HK : Hid (MOk w m da n c) := k
  have HWID : Hid (∀ A, Below w.heap.size w A → Wid8 A) := fun A hA => hw.old hA
  have HSEG0 : Hid (∀ A, Below w.heap.size w A → Seg .u8 A a (toI bs0)) := fun A hA => hs.old hA
  have HN0 : Hid (bs0.length = len) := hn
  have H0256 : Hid (∀ z ∈ bs0, z < 256) := h256
  have QA : Hid _ := awake_any W (hw.old bel) (hd.old bel)
  rw [← hM]
  clear hW hr hx3 hy3 hO hx hy hw hA hC hM hB k hn hs h256 hd
  go_enter Tryd.func3, Tryd.ntmps3
  go_upto_region 1 with fail
  rw [HB.out, HO.out, HW.out]
  go_wp2_with fail
  refine Calls.mono QA.out ?_
  rintro e w1 ⟨rfl, hb1⟩
  have bel1 := bthen bel hb1
  have HR1 : Hid (MAt w1 O m da n c) := HR.out.below hb1
  have HX1 : Hid (Boxed w1 B V x) := HXB.out.old hb1
  have HY1 : Hid (Boxed w1 (B + 1) U y) := HYB.out.old hb1
  have QS : Hid _ := icSer_any V U x y m da n c w1 (HWID.out w1 bel1) (HK.out.old bel1) HXX.out HYY.out
  clear hb1 QA HR HXB HYB HW
  go_wp2_with (first | (refine wpList_load_ip (.tmp 6) rfl B V x rfl HX1.out rfl ?_) | (refine wpList_load_ip (.tmp 7) rfl (B + 1) U y rfl HY1.out rfl ?_) | (refine wpList_load_m8 _ rfl O m da n c rfl HR1.out rfl ?_))
  refine Calls.mono QS.out ?_
  rintro e w2 ⟨sv, er, rfl, her, hb2, hsr⟩
  have bel2 := bthen bel1 hb2
  have HR2 : Hid (MAt w2 O m da n c) := HR1.out.below hb2
  have HX2 : Hid (Boxed w2 B V x) := HX1.out.old hb2
  have HY2 : Hid (Boxed w2 (B + 1) U y) := HY1.out.old hb2
  have HSR : Hid (SerRes w1 (8 + n) (I8.ser m (psB m.v V U x y (8 + n))) er sv w2) := hsr
  have HER : Hid (er = I8.sE m (six6 V U)) := her
  clear hb2 QS HR1 HX1 HY1 hsr her
  go_upto_if 28 with fail
  go_cut [] (fun wx => Boxed wx B V x ∧ Boxed wx (B + 1) U y ∧ Below w.heap.size w wx)
  case first =>
    rcases HSR.out with ⟨h0, g, hg, hown⟩ | ⟨hne, hnil⟩
    · subst hg
      subst h0
      obtain ⟨hchk, hpx⟩ := sE_psX HER.out.symm
      obtain ⟨_, hokf, hlen⟩ := I8.chk_zero m hchk
      have c0 := HR2.out.c0
      have hn8 : 8 + n ≤ 65515 := by rw [← HK.out.dl]; exact hlen
      have HOW : Hid (OwnB w2 w1.heap.size (.slice (some ⟨g, 0, none⟩) (8 + n) (8 + n)) (8 + n) (I8.ser m (psB m.v V U x y (8 + n)))) := hown
      have HSL : Hid ((I8.ser m (psB m.v V U x y (8 + n))).length = 8 + n) := by show _ = _; rw [I8.ser_len, HK.out.dl]
      have QP := icParse_any m.v V U x y (some ⟨g, 0, none⟩) (8 + n) (8 + n) (I8.ser m (psB m.v V U x y (8 + n))) w2 HSL.out (HWID.out w2 bel2) (fun _ => (owns_seg_at hown).1) (I8.ser_256 m _ hokf HK.out.d256) (Nat.le_refl _) (by omega) HXX.out HYY.out
      have QP2 : Hid _ := QP
      have HPE : Hid (I8.pE m.v (six6 V U) (psB m.v V U x y (8 + n)) (I8.ser m (psB m.v V U x y (8 + n))) = 0) := I8.pE_ser m _ _ (psB_even _ _ _ _ _ _ hpx (by omega)) HER.out.symm
      have HPM : Hid (I8.pM m.v (I8.ser m (psB m.v V U x y (8 + n))) = m) := I8.pM_ser m _ hokf
      have HCH : Hid (I8.chk m = 0) := hchk
      clear hown hchk hpx hokf hlen QP
      go_wp2_with (first | (refine wpList_load_ip (.tmp 6) rfl B V x rfl HX2.out rfl ?_) | (refine wpList_load_ip (.tmp 7) rfl (B + 1) U y rfl HY2.out rfl ?_))
      refine Calls.mono QP2.out ?_
      rintro e w3 ⟨er3, rfl, hb3, he3⟩
      rw [HPE.out] at he3
      subst he3
      have bel3 := bthen bel2 hb3
      have ePC : pC 0 m.v (some ⟨g, 0, none⟩) (8 + n) (I8.ser m (psB m.v V U x y (8 + n))) = mC m (some ⟨g, 8, none⟩) n n ∨ (n = 0 ∧ pC 0 m.v (some ⟨g, 0, none⟩) (8 + n) (I8.ser m (psB m.v V U x y (8 + n))) = mC m (some ⟨g, 0, none⟩) n n) := by
        unfold pC
        rw [if_pos rfl, HPM.out, show 8 + n - 8 = n by omega]
        unfold cutA
        by_cases hn0 : n = 0
        · right; rw [if_pos hn0]; exact ⟨hn0, rfl⟩
        · left; rw [if_neg hn0]; rfl
      obtain ⟨xa, hxa, hxs⟩ : ∃ xa, pC 0 m.v (some ⟨g, 0, none⟩) (8 + n) (I8.ser m (psB m.v V U x y (8 + n))) = mC m xa n n ∧ Seg .u8 w3 xa (toI m.d) := by
        rcases ePC with h | ⟨hn0, h⟩
        · refine ⟨_, h, ?_⟩
          have h1 := ((owns_seg_at HOW.out).1.old hb3).part 8 n (by rw [toI_len, HSL.out]; omega)
          rw [toI_drop, toI_take] at h1
          have e8 : (I8.ser m (psB m.v V U x y (8 + n))).drop 8 = m.d := rfl
          rw [e8, List.take_of_length_le (by rw [HK.out.dl]; exact Nat.le_refl _)] at h1
          exact h1
        · refine ⟨_, h, .inl ?_⟩
          have : m.d = [] := List.length_eq_zero_iff.1 (by rw [HK.out.dl]; exact hn0)
          rw [this]; rfl
      rw [hxa]
      have HR3 : Hid (MAt w3 O m da n c) := HR2.out.below hb3
      have HX3 : Hid (Boxed w3 B V x) := HX2.out.old hb3
      have HY3 : Hid (Boxed w3 (B + 1) U y) := HY2.out.old hb3
      have HXS : Hid (Seg .u8 w3 xa (toI m.d)) := hxs
      clear hxs hxa ePC hb3 QP2 c0 HR2 HX2 HY2 HOW HSR
      go_upto_region 6 with (first | (refine wpList_alloc_m8 rfl rfl ?_) | (refine wpList_store_m8 (.tmp 13) (.tmp 36) rfl rfl w3.heap.size m8z m none xa 0 0 n n rfl rfl (mAt_new _ _ _ _ _) rfl ?_))
      intro w4 hR4 k4
      have hb4 : Below w3.heap.size w3 w4 := ((Below.refl _ _).alloc (Nat.le_refl _) _).trans (k4.below (fun q e => by have e' : q = w3.heap.size := e; omega) (by simp))
      have bel4 := bthen bel3 hb4
      obtain ⟨P, hP⟩ : ∃ P, P = w3.heap.size := ⟨_, rfl⟩
      rw [← hP] at hR4 ⊢
      have HM4 : Hid (MAt w4 P m xa n n) := hR4
      have HR4 : Hid (MAt w4 O m da n c) := HR3.out.below hb4
      have HX4 : Hid (Boxed w4 B V x) := HX3.out.old hb4
      have HY4 : Hid (Boxed w4 (B + 1) U y) := HY3.out.old hb4
      have QE : Hid _ := mSame_true m xa da n n c w4 HK.out.dl (HXS.out.old hb4) (HK.out.old bel4).seg (by have := HK.out.sm; omega)
      clear hR4 k4 hb4 hP HR3 HX3 HY3 HXS bel3
      go_wp2_with (first | (refine wpList_load_m8 (.tmp 13) rfl P m xa n n rfl HM4.out rfl ?_) | (refine wpList_load_m8 (.tmp 8) rfl O m da n c rfl HR4.out rfl ?_))
      refine Calls.mono QE.out ?_
      rintro e w5 ⟨rfl, hb5⟩
      have bel5 := bthen bel4 hb5
      have HR5 : Hid (MAt w5 O m da n c) := HR4.out.below hb5
      have HX5 : Hid (Boxed w5 B V x) := HX4.out.old hb5
      have HY5 : Hid (Boxed w5 (B + 1) U y) := HY4.out.old hb5
      have QC := icCheck_any m da n c w5 HK.out.dl HK.out.sm
      rw [HCH.out] at QC
      have QC2 : Hid _ := QC
      clear QC hb5 QE HM4 HR4 HX4 HY4 bel4
      go_wp2_with (first | (refine wpList_load_m8 (.tmp 8) rfl O m da n c rfl HR5.out rfl ?_))
      refine Calls.mono QC2.out ?_
      rintro e w6 ⟨rfl, hb6⟩
      have bel6 := bthen bel5 hb6
      have X6 := HX5.out.old hb6
      have Y6 := HY5.out.old hb6
      clear hb6 QC2
      go_wp2
      go_meet
      exact ⟨X6, Y6, bel6⟩
    · subst hnil
      have b1 : ((er : Int) == 0) = false := by rw [beq_eq_false_iff_ne]; omega
      clear hne
      go_wp2
      go_meet
      exact ⟨HX2.out, HY2.out, bel2⟩
  case rest =>
  obtain ⟨x3, y3, bel3⟩ := hcut
  have HX3 : Hid (Boxed wc B V x) := x3
  have HY3 : Hid (Boxed wc (B + 1) U y) := y3
  have QL : Hid _ := laid8_any a len cap bs0 wc HN0.out (HSEG0.out wc bel3) hcap
  clear x3 y3 HR2 HX2 HY2 HSR HER bel2
  go_wp2_with fail
  refine Calls.mono QL.out ?_
  rintro e w4 ⟨g, gc, N, rfl, hN, hN6, hown, hb4⟩
  have bel4 := bthen bel3 hb4
  have HX4 : Hid (Boxed w4 B V x) := HX3.out.old hb4
  have HY4 : Hid (Boxed w4 (B + 1) U y) := HY3.out.old hb4
  obtain ⟨bs, hbs⟩ : ∃ bs, bs = cut6 bs0 := ⟨_, rfl⟩
  rw [← hbs] at hown hN
  have H256 : Hid (∀ z ∈ bs, z < 256) := by rw [hbs]; exact fun z hz => H0256.out z (List.mem_of_mem_take hz)
  have HN : Hid (bs.length = N) := hN.symm
  have HOW : Hid (OwnB w4 wc.heap.size (.slice (some ⟨g, 0, none⟩) (N + 5) gc) (N + 5) (bs ++ lMarks)) := hown
  have HIN : Hid (∀ A, Below w4.heap.size w4 A → Seg .u8 A (some ⟨g, 0, none⟩) (toI bs)) := fun A hA => by
    have h1 := ((owns_seg_at hown).1.old hA).part0 N (by rw [toI_len, List.length_append, ← hN]; omega)
    rw [toI_take, hN, List.take_left'] at h1
    · exact h1
    · rfl
  have HCC : Hid (N + 5 ≤ gc ∧ gc ≤ 9223372036854775807) := (owns_seg_at hown).2
  clear hbs hown hN hb4 QL HX3 HY3
  have QP : Hid _ := icParse_any v V U x y (some ⟨g, 0, none⟩) N gc bs w4 HN.out (HWID.out w4 bel4) (fun _ => HIN.out w4 (Below.refl _ _)) H256.out (by have := HCC.out; omega) HCC.out.2 HXX.out HYY.out
  go_wp2_with (first | (refine wpList_load_ip (.tmp 6) rfl B V x rfl HX4.out rfl ?_) | (refine wpList_load_ip (.tmp 7) rfl (B + 1) U y rfl HY4.out rfl ?_))
  refine Calls.mono QP.out ?_
  rintro e w5 ⟨er, rfl, hb5, her⟩
  have bel5 := bthen bel4 hb5
  have HX5 : Hid (Boxed w5 B V x) := HX4.out.old hb5
  have HY5 : Hid (Boxed w5 (B + 1) U y) := HY4.out.old hb5
  have HER : Hid (er = I8.pE v (six6 V U) (psB v V U x y N) bs) := her
  have HB45 : Hid (Below w4.heap.size w4 w5) := hb5
  clear hb5 QP HX4 HY4 her
  by_cases h0 : er = 0
  case neg =>
    have b1 : ((er : Int) != 0) = true := by rw [bne_iff_ne]; omega
    have ep : pC er v (some ⟨g, 0, none⟩) N bs = mC m8z none 0 0 := by unfold pC; rw [if_neg h0]
    rw [ep]
    clear h0 ep
    go_upto_region 12 with (first | (refine wpList_alloc_m8 rfl rfl ?_) | (refine wpList_store_m8 (.tmp 17) (.tmp 65) rfl rfl w5.heap.size m8z m8z none none 0 0 0 0 rfl rfl (mAt_new _ _ _ _ _) rfl ?_))
    intro w6 hR6 k6
    have hb6 : Below w5.heap.size w5 w6 := ((Below.refl _ _).alloc (Nat.le_refl _) _).trans (k6.below (fun q e => by have e' : q = w5.heap.size := e; omega) (by simp))
    have bel6 := bthen bel5 hb6
    obtain ⟨P, hP⟩ : ∃ P, P = w5.heap.size := ⟨_, rfl⟩
    rw [← hP] at hR6 ⊢
    have HM6 : Hid (MAt w6 P m8z none 0 0) := hR6
    clear hR6 k6 hb6 hP
    go_wp2_with (first | (refine wpList_load_m8 (.tmp 17) rfl P m8z none 0 0 rfl HM6.out rfl ?_) | (refine wpList_build0 rfl rfl ?_))
    refine Calls.mono (mSame_true m8z none none 0 0 0 w6 rfl (.inl rfl) (.inl rfl) (by omega)) ?_
    rintro e w7 ⟨rfl, hb7⟩
    have HF : Hid (Below w.heap.size w w7) := bthen bel6 hb7
    clear hb7
    go_wp2
    go_ret
    exact ⟨rfl, HF.out⟩
  have HPE : Hid (I8.pE v (six6 V U) (psB v V U x y N) bs = 0) := by rw [← HER.out]; exact h0
  subst h0
  have hz := I8.pE_zero HPE.out
  have hN8 : 8 ≤ N := by rw [← HN.out]; exact hz.2.2.2.1
  have HGOOD : Hid (S.fold (S.wv false (psB v V U x y N ++ bs)) = 65535) := hz.2.2.2.2
  have HPX : Hid (psX v V U = 0) := pE_psX HPE.out
  have ep : pC 0 v (some ⟨g, 0, none⟩) N bs = mC (I8.pM v bs) (cutA (some ⟨g, 0, none⟩) 8 (N - 8)) (N - 8) (N - 8) := by unfold pC; rw [if_pos rfl]
  rw [ep]
  obtain ⟨xa, hxa⟩ : ∃ xa, xa = cutA (some ⟨g, 0, none⟩) 8 (N - 8) := ⟨_, rfl⟩
  have HDL : Hid ((I8.pM v bs).d.length = N - 8) := by show (bs.drop 8).length = _; rw [List.length_drop, HN.out]
  have HKX : Hid (∀ A, Below w4.heap.size w4 A → MOk A (I8.pM v bs) xa (N - 8) (N - 8)) := fun A hA => by
    refine ⟨HDL.out, ?_, fun z hz => H256.out z (List.mem_of_mem_drop hz), Nat.le_refl _, by omega, by omega⟩
    have h1 := (HIN.out A hA).cut 8 (N - 8) (by rw [toI_len, HN.out]; omega)
    rw [toI_drop, toI_take, List.take_of_length_le (by rw [List.length_drop, HN.out]; omega)] at h1
    rw [hxa]
    exact h1
  rw [← hxa]
  obtain ⟨pm, hpm⟩ : ∃ pm, pm = I8.pM v bs := ⟨_, rfl⟩
  have HPM : Hid (pm = I8.pM v bs) := hpm
  rw [← hpm] at HKX HDL ⊢
  clear hz ep hxa hpm HER
  go_upto_region 12 with (first | (refine wpList_alloc_m8 rfl rfl ?_) | (refine wpList_store_m8 (.tmp 17) (.tmp 65) rfl rfl w5.heap.size m8z pm none xa 0 0 (N - 8) (N - 8) rfl rfl (mAt_new _ _ _ _ _) rfl ?_))
  intro w6 hR6 k6
  have hb6 : Below w5.heap.size w5 w6 := ((Below.refl _ _).alloc (Nat.le_refl _) _).trans (k6.below (fun q e => by have e' : q = w5.heap.size := e; omega) (by simp))
  have bel6 := bthen bel5 hb6
  obtain ⟨P, hP⟩ : ∃ P, P = w5.heap.size := ⟨_, rfl⟩
  rw [← hP] at hR6 ⊢
  have HM6 : Hid (MAt w6 P pm xa (N - 8) (N - 8)) := hR6
  have HX6 : Hid (Boxed w6 B V x) := HX5.out.old hb6
  have HY6 : Hid (Boxed w6 (B + 1) U y) := HY5.out.old hb6
  have HB46 : Hid (Below w4.heap.size w4 w6) := bthen HB45.out hb6
  clear hR6 k6 hb6 hP HX5 HY5 bel5 HB45
  have QS := icSer_any V U x y pm xa (N - 8) (N - 8) w6 (HWID.out w6 bel6) (HKX.out w6 HB46.out) HXX.out HYY.out
  have e8 : 8 + (N - 8) = N := by omega
  have ev : pm.v = v := by rw [HPM.out]; rfl
  rw [e8, ev] at QS
  have QS2 : Hid _ := QS
  clear QS e8 ev
  go_wp2_with (first | (refine wpList_load_ip (.tmp 6) rfl B V x rfl HX6.out rfl ?_) | (refine wpList_load_ip (.tmp 7) rfl (B + 1) U y rfl HY6.out rfl ?_) | (refine wpList_load_m8 (.tmp 17) rfl P pm xa (N - 8) (N - 8) rfl HM6.out rfl ?_))
  refine Calls.mono QS2.out ?_
  rintro e w7 ⟨sv, es, rfl, hes, hb7, hsr⟩
  have hes0 : es = 0 := by rw [hes, HPM.out]; exact I8.pM_sE HPE.out H256.out
  subst hes0
  rcases hsr with ⟨_, gs, rfl, hso⟩ | ⟨hne, _⟩
  case inr => exact absurd rfl hne
  have bel7 := bthen bel6 hb7
  have HIN7 : Hid (Seg .u8 w7 (some ⟨g, 0, none⟩) (toI bs)) := HIN.out w7 (bthen HB46.out hb7)
  have HSO : Hid (OwnB w7 w6.heap.size (.slice (some ⟨gs, 0, none⟩) N N) N (I8.ser pm (psB v V U x y N))) := hso
  have HSER : Hid (I8.ser pm (psB v V U x y N) = I8.hd pm (I8.sm pm (psB v V U x y N)) ++ bs.drop 8) := by
    show I8.hd pm (I8.sm pm (psB v V U x y N)) ++ pm.d = _
    rw [HPM.out]
    rfl
  have HOWN : Hid (bs = I8.hd pm (bs.getD 2 0 * 256 + bs.getD 3 0) ++ bs.drop 8) := by
    have := I8.own_form v bs (by rw [HN.out]; exact hN8) H256.out
    rw [HPM.out]
    exact this
  have HBACK := I8.back v (psB v V U x y N) bs (psB_even _ _ _ _ _ _ HPX.out (by have := (I8.pE_zero HPE.out).1; rw [HN.out] at this; omega)) (by rw [HN.out]; exact hN8) H256.out HGOOD.out
  rw [← HPM.out] at HBACK
  have q2 := I8.getD_lt bs H256.out 2
  have q3 := I8.getD_lt bs H256.out 3
  have hgs : g ≠ gs := by
    have h1 := (hso.lt gs rfl).1
    have h2 := (HOW.out.lt g rfl).2
    have h3 := HB46.out.size
    omega
  obtain ⟨sl, hsl⟩ : ∃ sl, sl = I8.ser pm (psB v V U x y N) := ⟨_, rfl⟩
  obtain ⟨s, hs⟩ : ∃ s, s = I8.sm pm (psB v V U x y N) := ⟨_, rfl⟩
  have hs65 : s ≤ 65535 := by rw [hs]; exact I8.sm_le _ _
  rw [← hsl] at HSO HSER
  rw [← hs] at HBACK HSER
  have HSL : Hid (sl.length = N) := HSO.out.len
  have HS2 : Hid (sl.getD 2 0 = s / 256 ∧ sl.getD 3 0 = s % 256) := by rw [hsl, hs]; exact ser_two _ _
  obtain ⟨_, _, ei, hic⟩ := seg_at HIN7.out 2 (by rw [HN.out]; omega)
  have ei2 := Option.some.inj ei
  simp only [Addr.mk.injEq, and_true] at ei2
  obtain ⟨rfl, rfl⟩ := ei2
  have i2 : w7.cell? ⟨g, 2, none⟩ = some (.int .u8 ((bs.getD 2 0 : Nat) : Int)) := by have := hic 2 (by rw [HN.out]; omega); simpa using this
  have i3 : w7.cell? ⟨g, 3, none⟩ = some (.int .u8 ((bs.getD 3 0 : Nat) : Int)) := by have := hic 3 (by rw [HN.out]; omega); simpa using this
  obtain ⟨_, _, es2, hsc⟩ := seg_at (owns_seg_at HSO.out).1 2 (by rw [HSL.out]; omega)
  have es3 := Option.some.inj es2
  simp only [Addr.mk.injEq, and_true] at es3
  obtain ⟨rfl, rfl⟩ := es3
  have j2 : w7.cell? ⟨gs, 2, none⟩ = some (.int .u8 ((s / 256 : Nat) : Int)) := by have := hsc 2 (by rw [HSL.out]; omega); rw [HS2.out.1] at this; simpa using this
  have j3 : w7.cell? ⟨gs, 3, none⟩ = some (.int .u8 ((s % 256 : Nat) : Int)) := by have := hsc 3 (by rw [HSL.out]; omega); rw [HS2.out.2] at this; simpa using this
  obtain ⟨b2, hb2⟩ : ∃ b, b = bs.getD 2 0 := ⟨_, rfl⟩
  obtain ⟨b3, hb3⟩ : ∃ b, b = bs.getD 3 0 := ⟨_, rfl⟩
  rw [← hb2] at i2 q2 HBACK HOWN
  rw [← hb3] at i3 q3 HBACK HOWN
  obtain ⟨t2, ht2⟩ : ∃ b, b = s / 256 := ⟨_, rfl⟩
  obtain ⟨t3, ht3⟩ : ∃ b, b = s % 256 := ⟨_, rfl⟩
  rw [← ht2] at j2
  rw [← ht3] at j3
  have hNI : ((N : Int) != (N : Int)) = false := by simp
  have HGS : Hid (g ≠ gs) := hgs
  have HLT : Hid (w6.heap.size ≤ gs) := (HSO.out.lt gs rfl).1
  have HSM6 : Hid (w.heap.size ≤ w6.heap.size) := bel6.size
  have HSEQ : Hid (t2 = s / 256 ∧ t3 = s % 256) := ⟨ht2, ht3⟩
  have n2 : (2 : Int) < (N : Int) := by omega
  have n3 : (3 : Int) < (N : Int) := by omega
  clear hb2 hb3 ht2 ht3 hsl hs hso hes QS2 hb7 HM6 HX6 HY6 hgs hic hsc ei es2
  rcases HBACK with hA | ⟨hs0, hb2, hb3⟩
  · have HEQ : Hid (sl = bs) := by show _ = _; rw [HSER.out, hA, ← HOWN.out]
    have HT : Hid (t2 = b2 ∧ t3 = b3) := by
      have := HSEQ.out
      show t2 = b2 ∧ t3 = b3
      omega
    have QE := same8_any (some ⟨gs, 0, none⟩) (some ⟨g, 0, none⟩) N N N gc sl bs w7 HSL.out HN.out (owns_seg_at HSO.out).1 HIN7.out (by omega)
    rw [decide_eq_true HEQ.out] at QE
    have QE2 : Hid _ := QE
    clear QE hA
    by_cases k2 : b2 = 255
    · have z2 : ((b2 : Int) == 255) = true := by rw [beq_iff_eq]; omega
      have y2 : ((t2 : Int) == 0) = false := by rw [beq_eq_false_iff_ne]; have := HT.out.1; omega
      by_cases k3 : b3 = 255
      · have z3 : ((b3 : Int) == 255) = true := by rw [beq_iff_eq]; omega
        clear k2 k3
        go_wp2_with fail
        refine Calls.mono QE2.out ?_
        rintro e w9 ⟨rfl, hb9⟩
        have HF : Hid (Below w.heap.size w w9) := bthen bel7 hb9
        clear hb9
        go_wp2
        go_ret
        exact ⟨rfl, HF.out⟩
      · have z3 : ((b3 : Int) == 255) = false := by rw [beq_eq_false_iff_ne]; omega
        clear k2 k3
        go_wp2_with fail
        refine Calls.mono QE2.out ?_
        rintro e w9 ⟨rfl, hb9⟩
        have HF : Hid (Below w.heap.size w w9) := bthen bel7 hb9
        clear hb9
        go_wp2
        go_ret
        exact ⟨rfl, HF.out⟩
    · have z2 : ((b2 : Int) == 255) = false := by rw [beq_eq_false_iff_ne]; omega
      clear k2
      go_wp2_with fail
      refine Calls.mono QE2.out ?_
      rintro e w9 ⟨rfl, hb9⟩
      have HF : Hid (Below w.heap.size w w9) := bthen bel7 hb9
      clear hb9
      go_wp2
      go_ret
      exact ⟨rfl, HF.out⟩
  · subst hb2
    subst hb3
    have ht : t2 = 0 ∧ t3 = 0 := by have := HSEQ.out; omega
    obtain ⟨rfl, rfl⟩ := ht
    have f2 := own_fz6 HSO.out 2
    have f3 := own_fz6 HSO.out 3
    have o1 := set_own6 (i := 2) (y := 255) HSO.out HSL.out
    have o2 := set_own6 (i := 3) (y := 255) o1 (by rw [List.length_set]; exact HSL.out)
    have HO2 : Hid (OwnB ((w7.setCell ⟨gs, 2, none⟩ (.int .u8 ((255 : Nat) : Int))).setCell ⟨gs, 3, none⟩ (.int .u8 ((255 : Nat) : Int))) w6.heap.size (.slice (some ⟨gs, 0, none⟩) N N) N ((sl.set 2 255).set 3 255)) := o2
    have HEQ : Hid ((sl.set 2 255).set 3 255 = bs) := by
      show _ = _
      rw [HSER.out, hs0, HOWN.out]
      simp [I8.hd]
    have chs : Ch (fun q => q = gs) w7 ((w7.setCell ⟨gs, 2, none⟩ (.int .u8 ((255 : Nat) : Int))).setCell ⟨gs, 3, none⟩ (.int .u8 ((255 : Nat) : Int))) := by
      have c1 : Ch (fun q => q = gs) w7 (w7.setCell ⟨gs, 2, none⟩ (.int .u8 ((255 : Nat) : Int))) := (Ch.refl (fun q => q = gs) w7).set _ _ rfl
      exact c1.set _ _ rfl
    obtain ⟨w8, hw8⟩ : ∃ w8, w8 = (w7.setCell ⟨gs, 2, none⟩ (.int .u8 255)).setCell ⟨gs, 3, none⟩ (.int .u8 255) := ⟨_, rfl⟩
    have hw8' : w8 = (w7.setCell ⟨gs, 2, none⟩ (.int .u8 ((255 : Nat) : Int))).setCell ⟨gs, 3, none⟩ (.int .u8 ((255 : Nat) : Int)) := hw8
    rw [← hw8'] at HO2 chs
    have bel8 : Below w.heap.size w w8 := bel7.trans (chs.below (fun q e => by have e' : q = gs := e; have := HLT.out; have := HSM6.out; omega) bel7.size)
    have HIN8 : Seg .u8 w8 (some ⟨g, 0, none⟩) (toI bs) := chs.seg HIN7.out (fun z _ hz e => by
      have e1 := Option.some.inj hz
      subst e1
      exact HGS.out e)
    have HW8 : Hid ((w7.setCell ⟨gs, 2, none⟩ (.int .u8 255)).setCell ⟨gs, 3, none⟩ (.int .u8 255) = w8) := hw8.symm
    have QE := same8_any (some ⟨gs, 0, none⟩) (some ⟨g, 0, none⟩) N N N gc ((sl.set 2 255).set 3 255) bs w8 (by rw [List.length_set, List.length_set]; exact HSL.out) HN.out (owns_seg_at HO2.out).1 HIN8 (by omega)
    rw [decide_eq_true HEQ.out] at QE
    have QE2 : Hid _ := QE
    have z2 : (((255 : Nat) : Int) == 255) = true := rfl
    have z3 : (((0 : Nat) : Int) == 0) = true := rfl
    clear QE hs0 o1 o2 chs hw8 hw8' HIN8
    go_wp2_with fail
    rw [HW8.out]
    refine Calls.mono QE2.out ?_
    rintro e w9 ⟨rfl, hb9⟩
    have HF : Hid (Below w.heap.size w w9) := bthen bel8 hb9
    clear hb9
    go_wp2
    go_ret
    exact ⟨rfl, HF.out⟩
end Go.Proofs.YtkhalknpfikghaaDoor
