/-
  L4Again: the walk.
-/
import Derived.Test.YtfoeepbndfnifaaDoorL9A3
import Derived.Test.YtfoeepbndfnifaaDoorL9St1
import Derived.Deep.CutBlock
namespace Go.Proofs.YtfoeepbndfnifaaDoor
open Go.RowKit
open L4 (U9 T9)
open Ag6

set_option maxHeartbeats 25600000 in
set_option maxRecDepth 100000 in
theorem l4Again.walk (w : World) (hT : Tabs w) (V : Int) (x : Nat → Nat) (hx : ∀ i, i < 16 → x i < 256) (U : Int) (y : Nat → Nat) (hy : ∀ i, i < 16 → y i < 256) (bs : List Nat) (a : Option Addr) (n cap : Nat) (hd : DOk w bs a n cap) (hcap : cap ≤ 1048576) (ta : Option Addr) (T tc : Nat) (rs : List Tn) (hTl : List.length rs = T) (ht : ListG 2 Tn.cells (fun _ => True) w ta rs) (hTm : T ≤ 1048576) :
    Calls Tryd.prog 3 #[.agg (ipCells V x), .agg (ipCells U y), .slice a n cap, .slice ta T tc] w fun e w' => e = .returned (.bool true) ∧ Below w.heap.size w w' := by
  obtain ⟨A, hA⟩ : ∃ A, A = ipCells V x := ⟨_, rfl⟩
  obtain ⟨C, hC⟩ : ∃ C, C = ipCells U y := ⟨_, rfl⟩
  have hx1 := boxed_new w V x 24
  have hy1 := boxed_new (w.alloc (.cells (ipCells V x) 24)) U y 24
  rw [World.size_alloc] at hy1
  have hx2 := hx1.old ((Below.refl _ _).alloc (Nat.le_refl _) (.cells (ipCells U y) 24))
  clear hx1
  rw [← hA] at hx2 hy1 ⊢
  rw [← hC] at hx2 hy1 ⊢
  have bel : Below w.heap.size w ((w.alloc (.cells A 24)).alloc (.cells C 24)) := ((Below.refl _ _).alloc (Nat.le_refl _) _).alloc (by simp) _
  obtain ⟨W, hW⟩ : ∃ W, W = (w.alloc (.cells A 24)).alloc (.cells C 24) := ⟨_, rfl⟩
  rw [← hW] at hx2 hy1 bel
  obtain ⟨B, hB⟩ : ∃ B, B = w.heap.size := ⟨_, rfl⟩
  have HB : Hid (w.heap.size = B) := hB.symm
  rw [← hB] at hx2 hy1
  have HW : Hid ((w.alloc (.cells A 24)).alloc (.cells C 24) = W) := hW.symm
  have HX : Hid (∀ i, i < 16 → x i < 256) := hx
  have HY : Hid (∀ i, i < 16 → y i < 256) := hy
  have HXB : Hid (Boxed W B V x) := hx2
  have HYB : Hid (Boxed W (B + 1) U y) := hy1
  clear hW hx2 hy1 hx hy hA hC hB
  have HTW : Hid (Tabs W) := hT.old bel
  have HD : Hid (∀ A, Below W.heap.size W A → DOk A bs a n cap) := fun A hA => (hd.old bel).old hA
  have HN : Hid (bs.length = n) := hd.dl
  have H256 : Hid (∀ z ∈ bs, z < 256) := hd.d256
  have hncap := hd.cap
  have hnm : n ≤ 1048576 := by omega
  have HTL : Hid (List.length rs = T) := hTl
  have HTS : Hid (∀ A, Below W.heap.size W A → ListG 2 Tn.cells (fun _ => True) A ta rs) := fun A hA => (ht.old bel).old hA
  have HBEL : Hid (Below w.heap.size w W) := bel
  have QS : Hid _ := started_any W HTW.out
  clear hT hd hTl ht bel
  go_enter Tryd.func3, Tryd.ntmps3
  go_upto_region 1 with fail
  rw [HB.out, HW.out]
  clear HW
  go_wp2_with fail
  refine Calls.mono QS.out ?_
  rintro e w1 ⟨rfl, bel1⟩
  have QC : Hid _ := copied_any a n cap bs w1 HN.out (HD.out w1 bel1).seg (by omega)
  clear QS
  go_wp2_with fail
  refine Calls.mono QC.out ?_
  rintro e w2 ⟨v, rfl, ho2, hb2⟩
  obtain ⟨va, vc, rfl⟩ := owns_shape ho2
  have bel2 := bthen bel1 hb2
  have HO2 : Hid (w2.ownsRow W.heap.size 5 1 (.slice va n vc) n ((toI bs).map (Value.int .u8))) := owns_mono ho2 bel1.size
  have QL : Hid _ := Dk.lend_any (w2.alloc (.cells #[.slice none 0 0, .int .i64 0] 31)) w2.heap.size w2.heap.size none 0 0 [] (desk_new w2 w2.heap.size (Nat.le_refl _)) va vc bs (fun x hx => (owns_at (owns_below HO2.out (((Below.refl _ _).alloc (Nat.le_refl _) _).trans hx))).1) (by rw [HN.out]; omega) (by rw [World.size_alloc]; omega)
  rw [HN.out] at QL
  have HB2 : Hid _ := bel2
  clear QC ho2 hb2 bel1 bel2
  go_wp2_with fail
  refine Calls.mono QL.out ?_
  rintro e w3 ⟨g, M, rfl, LT⟩
  have S0 : Hid (St W (w3.alloc (.cells #[.slice none 0 0, .slice none 0 0] 35)) W.heap.size w2.heap.size g M w3.heap.size n bs bs (.slice va n vc) (.slice none 0 0) (.slice none 0 0) []) := st_new HB2.out HB2.out.size HO2.out HN.out H256.out LT
  obtain ⟨wz, hwz⟩ : ∃ wz, wz = w3.alloc (.cells #[.slice none 0 0, .slice none 0 0] 35) := ⟨_, rfl⟩
  clear QL LT
  go_wp2
  rw [← hwz] at S0 ⊢
  obtain ⟨K, hK⟩ : ∃ K, K = w3.heap.size := ⟨_, rfl⟩
  obtain ⟨D, hD⟩ : ∃ D, D = w2.heap.size := ⟨_, rfl⟩
  rw [← hK, ← hD] at S0 ⊢
  clear hwz hK hD HB2 HO2
  go_loopw [13] (fun ix wr => ∃ (i : Nat) (l : List Nat) (vL vW : Value) (E : List Ll.BE), i ≤ 40 ∧ ix = .int .i64 i ∧ Hid (St W wr W.heap.size D g M K n l l (.slice va n vc) vL vW E ∧ E.length ≤ 2 * i)) (fun ix _ => 40 - (intOf ix).toNat)
  case atStart => exact ⟨0, bs, _, _, [], Nat.zero_le _, rfl, S0.out, Nat.zero_le _⟩
  case round =>
    obtain ⟨i, l, vL, vW, E, hi, rfl, SS⟩ := hrel
    clear S0
    by_cases hc : i ≤ T ∧ i < 40
    · obtain ⟨hc1, hc2⟩ := hc
      have d1 : (i : Int) ≤ (T : Int) := by omega
      have d2 : (i : Int) < 40 := by omega
      have ST : Hid _ := SS.out.1
      have hE := SS.out.2
      have HE : Hid (E.length ≤ 2 * i) := hE
      have hM1 := ST.out.cap
      have hM2 := ST.out.le
      have HL256 : Hid _ := ST.out.b256
      have HLEN : Hid _ := ST.out.len
      have KR : Hid (∀ A, Below wr.heap.size wr A → St W A W.heap.size D g M K n l l (.slice va n vc) vL vW E ∧ Boxed A B V x ∧ Boxed A (B + 1) U y ∧ Tabs A ∧ DOk A l (some ⟨g, 0, none⟩) n M ∧ DOk A l va n vc) := fun A hA => by
        have s := ST.out.below hA
        obtain ⟨p1, p2, p3⟩ := owns_at s.now
        exact ⟨s, HXB.out.old s.bel, HYB.out.old s.bel, HTW.out.old s.bel, ⟨s.len, s.seg, s.b256, s.le, by omega, by omega⟩, ⟨s.len, p1, s.b256, p2, p3, by omega⟩⟩
      have HBwr : Hid (Below wr.heap.size wr wr) := Below.refl _ _
      clear hE SS
      have Q1 : Hid _ := parseU_o V U x y (some ⟨g, 0, none⟩) n M l wr (KR.out wr HBwr.out).2.2.2.1.u (KR.out wr HBwr.out).2.2.2.2.1 HX.out HY.out
      have HX1 : Hid (Boxed wr B V x ∧ Boxed wr (B + 1) U y) := ⟨(KR.out wr HBwr.out).2.1, (KR.out wr HBwr.out).2.2.1⟩
      go_wp2_with (first | (refine wpList_load_ip (.tmp 4) rfl B V x rfl HX1.out.1 rfl ?_) | (refine wpList_load_ip (.tmp 5) rfl (B + 1) U y rfl HX1.out.2 rfl ?_))
      refine Calls.mono Q1.out ?_
      rintro e wq ⟨da, m, rfl, hb2, hf2⟩
      obtain ⟨u, hu⟩ : ∃ u, u = pUv V U x y l := ⟨_, rfl⟩
      obtain ⟨er, her⟩ : ∃ er : Nat, er = pUe V U x y l := ⟨_, rfl⟩
      have HU : Hid (pUv V U x y l = u ∧ pUe V U x y l = er) := ⟨hu.symm, her.symm⟩
      rw [← hu] at hf2 ⊢
      rw [← her]
      clear hu her
      have b3 : Below wq.heap.size wq (wq.alloc (.cells (uC u9z none 0 0) 37)) := (Below.refl _ _).alloc (Nat.le_refl _) _
      obtain ⟨w3, hw3⟩ : ∃ w3, w3 = wq.alloc (.cells (uC u9z none 0 0) 37) := ⟨_, rfl⟩
      obtain ⟨O14, hO⟩ : ∃ O14, O14 = wq.heap.size := ⟨_, rfl⟩
      have HNB : Hid (UAt w3 O14 u9z none 0 0) := by rw [hw3, hO]; exact uAt_new _ _ _ _ _
      rw [← hw3] at b3
      have HW3 : Hid (wq.alloc (.cells #[.int .i64 0, .int .i64 0, .bool false, .slice none 0 0] 37) = w3 ∧ wq.heap.size = O14) := ⟨hw3.symm, hO.symm⟩
      have HB2 : Hid (Below wr.heap.size wr wq ∧ Below wq.heap.size wq w3) := ⟨hb2, b3⟩
      have HF2 : Hid (DOk wq u.d da m m) := hf2
      clear Q1 HX1 hb2 hf2 b3 hw3 hO
      go_wp2_with (refine wpList_store_u9 (.tmp 14) (.tmp 53) rfl rfl O14 u9z none 0 0 u da m m (by rw [← HW3.out.2]; rfl) rfl (by have h := HNB.out; rw [← HW3.out.1] at h; exact h) rfl ?_)
      rw [HW3.out.1, HW3.out.2]
      intro w4 hR4 k4
      have hb24 : Below wq.heap.size wq w4 := HB2.out.2.trans (k4.below (fun q s => by have e : q = O14 := s; have := HW3.out.2; omega) HB2.out.2.size)
      have hb14 : Below wr.heap.size wr w4 := bthen HB2.out.1 hb24
      have HBw4 : Hid (Below wr.heap.size wr w4) := bthen HBwr.out hb14
      have HZw4 : Hid (wr.heap.size ≤ w4.heap.size) := hb14.size
      have HU4 : Hid (UAt w4 O14 u da m m ∧ DOk w4 u.d da m m) := ⟨hR4, HF2.out.old hb24⟩
      clear hR4 k4 hb24 hb14 HNB HW3 HB2 HF2
      go_upto_region 11 with fail
      go_cut [16, 17] (fun px ex wx => ∃ Q db m2 mc2, px = .pointer (some ⟨Q, 0, none⟩) ∧ ex = .int .i64 (er : Nat) ∧ Hid (Below w4.heap.size w4 wx ∧ UAt wx Q u db m2 mc2 ∧ DOk wx u.d db m2 mc2))
      case first =>
        have QCP : Hid (∀ A, Below wr.heap.size wr A → Calls Tryd.prog 5 #[.slice va n vc] A fun e w' => ∃ v, e = .returned v ∧ w'.ownsRow A.heap.size 5 1 v n ((toI l).map (Value.int .u8)) ∧ Below A.heap.size A w') := fun A hA => copied_any va n vc l A HLEN.out (KR.out A hA).2.2.2.2.2.seg (by omega)
        refine MixH.start (fun A => Below wr.heap.size wr A) (by kernel_rfl) ?_
        obtain ⟨wA, hwA⟩ : ∃ wA, wA = w4.drew := ⟨_, rfl⟩
        have hS : Below wr.heap.size wr wA := by rw [hwA]; exact HBw4.out.drew
        have BK_wA : Hid (Below w4.heap.size w4 wA) := by rw [hwA]; exact (Below.refl _ _).drew
        rw [← hwA]
        clear hwA
        refine MixH.takes [false, false, true] 10 (by kernel_rfl) (by kernel_rfl) (by decide) (by kernel_rfl) hS (fun K hK => ?_)
        simp only [Mix.pick]
        repeat (go_big_quiet_step (fail))
        refine wpQuiet_nil (hK _ ?_)
        clear hK K
        refine MixH.take 9 0 _ (.agg (ipCells V x)) rfl (by kernel_rfl) (by kernel_rfl) (by kernel_rfl) (by kernel_rfl) (yields_ip (.tmp 4) rfl B V x rfl rfl (fun A hA => (KR.out A hA).2.1)) hS (fun a' ha => ?_)
        simp only [Act.put, List.setIfInBounds_toArray, List.set_cons_succ, List.set_cons_zero] at ha
        subst ha
        refine MixH.take 8 1 _ (.agg (ipCells U y)) rfl (by kernel_rfl) (by kernel_rfl) (by kernel_rfl) (by kernel_rfl) (yields_ip (.tmp 5) rfl (B + 1) U y rfl rfl (fun A hA => (KR.out A hA).2.2.1)) hS (fun a' ha => ?_)
        simp only [Act.put, List.setIfInBounds_toArray, List.set_cons_succ, List.set_cons_zero] at ha
        subst ha
        refine MixH.pair [false, false, false, true] [false, false, false, false, false, false, false, false, true] 7 3 8 _ _ rfl rfl rfl rfl (by kernel_rfl) (by kernel_rfl) (fun K hK => ?_) (fun K hK => ?_)
        · simp only [Mix.pick]
          go_wp2_with fail
          refine Calls.mono (QCP.out wA hS) ?_
          rintro ex wC1 ⟨vv, rfl, hoB, hbB⟩
          obtain ⟨a3, c3, hvv⟩ := owns_shape hoB
          subst hvv
          have HD3 : Hid (DOk wC1 l a3 n c3) := own_dok hoB HL256.out (by omega)
          have BK_wC1 : Hid (Below w4.heap.size w4 wC1) := bthen BK_wA.out hbB
          replace hS : Below wr.heap.size wr wC1 := bthen hS hbB
          clear hoB hbB BK_wA
          go_wp2
          refine ⟨rfl, hK _ _ hS ?_⟩
          clear hK K
          refine MixH.pair [false, false, false, false, true] [false, false, false, false, false, false, false, false, true] 6 4 8 _ _ rfl rfl rfl rfl (by kernel_rfl) (by kernel_rfl) (fun K hK => ?_) (fun K hK => ?_)
          · simp only [Mix.pick]
            have QQ : Hid _ := rparseU_o V U x y a3 n c3 l wC1 HD3.out HX.out HY.out
            rw [HU.out.1, HU.out.2] at QQ
            go_wp2_with fail
            refine Calls.mono QQ.out ?_
            rintro ex wC2 ⟨db, m2, mc2, rfl, hb5, hf5⟩
            have HF_wC2 : Hid (DOk wC2 u.d db m2 mc2) := hf5
            have BK_wC2 : Hid (Below w4.heap.size w4 wC2) := bthen BK_wC1.out hb5
            replace hS : Below wr.heap.size wr wC2 := bthen hS hb5
            clear hf5 hb5 BK_wC1 QQ HD3
            go_wp2
            refine ⟨rfl, hK _ _ hS ?_⟩
            clear hK K
            refine MixH.takes [false, false, false, false, false, true, true, true] 3 (by kernel_rfl) (by kernel_rfl) (by decide) (by kernel_rfl) hS (fun K hK => ?_)
            simp only [Mix.pick]
            repeat (go_big_quiet_step (fail))
            refine wpQuiet_nil (hK _ ?_)
            clear hK K
            refine MixH.one [false, false, false, false, false, false, false, false, true] 2 8 _ rfl rfl (by kernel_rfl) (by kernel_rfl) (fun K hK => ?_)
            simp only [Mix.pick]
            have hSn : Below wr.heap.size wr (wC2.alloc (.cells #[.int .i64 0, .int .i64 0, .bool false, .slice none 0 0] 37)) := hS.alloc hS.size _
            go_wp2
            clear hS
            have hS := hSn
            refine ⟨rfl, hK _ _ hS ?_⟩
            clear hK K
            obtain ⟨wC3, hwwC3⟩ : ∃ z, z = wC2.alloc (.cells #[.int .i64 0, .int .i64 0, .bool false, .slice none 0 0] 37) := ⟨_, rfl⟩
            obtain ⟨Q, hQ⟩ : ∃ Q, Q = wC2.heap.size := ⟨_, rfl⟩
            have bq : Below wC2.heap.size wC2 wC3 := by rw [hwwC3]; exact (Below.refl _ _).alloc (Nat.le_refl _) _
            have HQ_wC3 : Hid (UAt wC3 Q u9z none 0 0 ∧ w4.heap.size ≤ Q) := ⟨by rw [hwwC3, hQ]; exact uAt_new wC2 u9z none 0 0, by rw [hQ]; exact BK_wC2.out.size⟩
            have BK_wC3 : Hid (Below w4.heap.size w4 wC3) := bthen BK_wC2.out bq
            have HBQ : Hid (Below wC2.heap.size wC2 wC3 ∧ wC2.heap.size ≤ Q) := ⟨bq, by rw [hQ]; exact Nat.le_refl _⟩
            rw [← hwwC3] at hS hSn ⊢
            rw [← hQ]
            clear hwwC3 hQ bq hSn BK_wC2
            refine MixH.one [false, false, false, false, false, false, false, false, false, true] 1 9 _ rfl rfl (by kernel_rfl) (by kernel_rfl) (fun K hK => ?_)
            simp only [Mix.pick]
            refine wpList_store_u9 (.tmp 16) (.tmp 61) rfl rfl Q u9z none 0 0 u db m2 mc2 rfl rfl HQ_wC3.out.1 rfl ?_
            intro wE hRE kE
            have HEND : Hid (Below w4.heap.size w4 wE ∧ UAt wE Q u db m2 mc2 ∧ DOk wE u.d db m2 mc2) := by
              have hlq : w4.heap.size ≤ Q := HQ_wC3.out.2
              exact ⟨BK_wC3.out.trans (kE.below (fun q e => by have e' : q = Q := e; omega) BK_wC3.out.size), hRE, HF_wC2.out.old (HBQ.out.1.trans (kE.below (fun q e => by have e' : q = Q := e; have := HBQ.out.2; omega) HBQ.out.1.size))⟩
            replace hS : Below wr.heap.size wr wE := bthen HBw4.out HEND.out.1
            clear hRE kE
            go_wp2
            refine ⟨rfl, hK _ _ hS ?_⟩
            clear hK K
            refine MixH.takes [false, false, false, false, false, false, false, false, false, false, true] 0 (by kernel_rfl) (by kernel_rfl) (by decide) (by kernel_rfl) hS (fun K hK => ?_)
            simp only [Mix.pick]
            repeat (go_big_quiet_step (fail))
            refine wpQuiet_nil (hK _ ?_)
            clear hK K
            refine MixH.done (by kernel_rfl) ?_
            go_wp2
            go_meet
            exact ⟨Q, db, m2, mc2, rfl, rfl, HEND⟩
          · simp only [Mix.pick]
            have hSn : Below wr.heap.size wr (wC1.alloc (.cells #[.int .i64 0, .int .i64 0, .bool false, .slice none 0 0] 37)) := hS.alloc hS.size _
            go_wp2
            clear hS
            have hS := hSn
            refine ⟨rfl, hK _ _ hS ?_⟩
            clear hK K
            obtain ⟨wC4, hwwC4⟩ : ∃ z, z = wC1.alloc (.cells #[.int .i64 0, .int .i64 0, .bool false, .slice none 0 0] 37) := ⟨_, rfl⟩
            obtain ⟨Q, hQ⟩ : ∃ Q, Q = wC1.heap.size := ⟨_, rfl⟩
            have bq : Below wC1.heap.size wC1 wC4 := by rw [hwwC4]; exact (Below.refl _ _).alloc (Nat.le_refl _) _
            have HQ_wC4 : Hid (UAt wC4 Q u9z none 0 0 ∧ w4.heap.size ≤ Q) := ⟨by rw [hwwC4, hQ]; exact uAt_new wC1 u9z none 0 0, by rw [hQ]; exact BK_wC1.out.size⟩
            have BK_wC4 : Hid (Below w4.heap.size w4 wC4) := bthen BK_wC1.out bq
            replace HD3 : Hid (DOk wC4 l a3 n c3) := HD3.out.old bq
            rw [← hwwC4] at hS hSn ⊢
            rw [← hQ]
            clear hwwC4 hQ bq hSn BK_wC1
            refine MixH.one [false, false, false, false, true] 5 4 _ rfl rfl (by kernel_rfl) (by kernel_rfl) (fun K hK => ?_)
            simp only [Mix.pick]
            have QQ : Hid _ := rparseU_o V U x y a3 n c3 l wC4 HD3.out HX.out HY.out
            rw [HU.out.1, HU.out.2] at QQ
            go_wp2_with fail
            refine Calls.mono QQ.out ?_
            rintro ex wC5 ⟨db, m2, mc2, rfl, hb5, hf5⟩
            have HF_wC5 : Hid (DOk wC5 u.d db m2 mc2) := hf5
            have HQ_wC5 : Hid (UAt wC5 Q u9z none 0 0 ∧ w4.heap.size ≤ Q ∧ Q < wC4.heap.size) := ⟨UAt.below HQ_wC4.out.1 hb5, HQ_wC4.out.2, HQ_wC4.out.1.lt⟩
            clear HQ_wC4
            have BK_wC5 : Hid (Below w4.heap.size w4 wC5) := bthen BK_wC4.out hb5
            replace hS : Below wr.heap.size wr wC5 := bthen hS hb5
            clear hf5 hb5 BK_wC4 QQ HD3
            go_wp2
            refine ⟨rfl, hK _ _ hS ?_⟩
            clear hK K
            refine MixH.takes [false, false, false, false, false, true, true, true] 2 (by kernel_rfl) (by kernel_rfl) (by decide) (by kernel_rfl) hS (fun K hK => ?_)
            simp only [Mix.pick]
            repeat (go_big_quiet_step (fail))
            refine wpQuiet_nil (hK _ ?_)
            clear hK K
            refine MixH.one [false, false, false, false, false, false, false, false, false, true] 1 9 _ rfl rfl (by kernel_rfl) (by kernel_rfl) (fun K hK => ?_)
            simp only [Mix.pick]
            refine wpList_store_u9 (.tmp 16) (.tmp 61) rfl rfl Q u9z none 0 0 u db m2 mc2 rfl rfl HQ_wC5.out.1 rfl ?_
            intro wE hRE kE
            have HEND : Hid (Below w4.heap.size w4 wE ∧ UAt wE Q u db m2 mc2 ∧ DOk wE u.d db m2 mc2) := by
              have hlq : w4.heap.size ≤ Q := HQ_wC5.out.2.1
              exact ⟨BK_wC5.out.trans (kE.below (fun q e => by have e' : q = Q := e; omega) BK_wC5.out.size), hRE, dokU_store HF_wC5.out HQ_wC5.out.1 kE⟩
            replace hS : Below wr.heap.size wr wE := bthen HBw4.out HEND.out.1
            clear hRE kE
            go_wp2
            refine ⟨rfl, hK _ _ hS ?_⟩
            clear hK K
            refine MixH.takes [false, false, false, false, false, false, false, false, false, false, true] 0 (by kernel_rfl) (by kernel_rfl) (by decide) (by kernel_rfl) hS (fun K hK => ?_)
            simp only [Mix.pick]
            repeat (go_big_quiet_step (fail))
            refine wpQuiet_nil (hK _ ?_)
            clear hK K
            refine MixH.done (by kernel_rfl) ?_
            go_wp2
            go_meet
            exact ⟨Q, db, m2, mc2, rfl, rfl, HEND⟩
        · simp only [Mix.pick]
          have hSn : Below wr.heap.size wr (wA.alloc (.cells #[.int .i64 0, .int .i64 0, .bool false, .slice none 0 0] 37)) := hS.alloc hS.size _
          go_wp2
          clear hS
          have hS := hSn
          refine ⟨rfl, hK _ _ hS ?_⟩
          clear hK K
          obtain ⟨wC6, hwwC6⟩ : ∃ z, z = wA.alloc (.cells #[.int .i64 0, .int .i64 0, .bool false, .slice none 0 0] 37) := ⟨_, rfl⟩
          obtain ⟨Q, hQ⟩ : ∃ Q, Q = wA.heap.size := ⟨_, rfl⟩
          have bq : Below wA.heap.size wA wC6 := by rw [hwwC6]; exact (Below.refl _ _).alloc (Nat.le_refl _) _
          have HQ_wC6 : Hid (UAt wC6 Q u9z none 0 0 ∧ w4.heap.size ≤ Q) := ⟨by rw [hwwC6, hQ]; exact uAt_new wA u9z none 0 0, by rw [hQ]; exact BK_wA.out.size⟩
          have BK_wC6 : Hid (Below w4.heap.size w4 wC6) := bthen BK_wA.out bq
          rw [← hwwC6] at hS hSn ⊢
          rw [← hQ]
          clear hwwC6 hQ bq hSn BK_wA
          refine MixH.one [false, false, false, true] 6 3 _ rfl rfl (by kernel_rfl) (by kernel_rfl) (fun K hK => ?_)
          simp only [Mix.pick]
          go_wp2_with fail
          refine Calls.mono (QCP.out wC6 hS) ?_
          rintro ex wC7 ⟨vv, rfl, hoB, hbB⟩
          obtain ⟨a3, c3, hvv⟩ := owns_shape hoB
          subst hvv
          have HD3 : Hid (DOk wC7 l a3 n c3) := own_dok hoB HL256.out (by omega)
          have HQ_wC7 : Hid (UAt wC7 Q u9z none 0 0 ∧ w4.heap.size ≤ Q) := ⟨UAt.below HQ_wC6.out.1 hbB, HQ_wC6.out.2⟩
          clear HQ_wC6
          have BK_wC7 : Hid (Below w4.heap.size w4 wC7) := bthen BK_wC6.out hbB
          replace hS : Below wr.heap.size wr wC7 := bthen hS hbB
          clear hoB hbB BK_wC6
          go_wp2
          refine ⟨rfl, hK _ _ hS ?_⟩
          clear hK K
          refine MixH.one [false, false, false, false, true] 5 4 _ rfl rfl (by kernel_rfl) (by kernel_rfl) (fun K hK => ?_)
          simp only [Mix.pick]
          have QQ : Hid _ := rparseU_o V U x y a3 n c3 l wC7 HD3.out HX.out HY.out
          rw [HU.out.1, HU.out.2] at QQ
          go_wp2_with fail
          refine Calls.mono QQ.out ?_
          rintro ex wC8 ⟨db, m2, mc2, rfl, hb5, hf5⟩
          have HF_wC8 : Hid (DOk wC8 u.d db m2 mc2) := hf5
          have HQ_wC8 : Hid (UAt wC8 Q u9z none 0 0 ∧ w4.heap.size ≤ Q ∧ Q < wC7.heap.size) := ⟨UAt.below HQ_wC7.out.1 hb5, HQ_wC7.out.2, HQ_wC7.out.1.lt⟩
          clear HQ_wC7
          have BK_wC8 : Hid (Below w4.heap.size w4 wC8) := bthen BK_wC7.out hb5
          replace hS : Below wr.heap.size wr wC8 := bthen hS hb5
          clear hf5 hb5 BK_wC7 QQ HD3
          go_wp2
          refine ⟨rfl, hK _ _ hS ?_⟩
          clear hK K
          refine MixH.takes [false, false, false, false, false, true, true, true] 2 (by kernel_rfl) (by kernel_rfl) (by decide) (by kernel_rfl) hS (fun K hK => ?_)
          simp only [Mix.pick]
          repeat (go_big_quiet_step (fail))
          refine wpQuiet_nil (hK _ ?_)
          clear hK K
          refine MixH.one [false, false, false, false, false, false, false, false, false, true] 1 9 _ rfl rfl (by kernel_rfl) (by kernel_rfl) (fun K hK => ?_)
          simp only [Mix.pick]
          refine wpList_store_u9 (.tmp 16) (.tmp 61) rfl rfl Q u9z none 0 0 u db m2 mc2 rfl rfl HQ_wC8.out.1 rfl ?_
          intro wE hRE kE
          have HEND : Hid (Below w4.heap.size w4 wE ∧ UAt wE Q u db m2 mc2 ∧ DOk wE u.d db m2 mc2) := by
            have hlq : w4.heap.size ≤ Q := HQ_wC8.out.2.1
            exact ⟨BK_wC8.out.trans (kE.below (fun q e => by have e' : q = Q := e; omega) BK_wC8.out.size), hRE, dokU_store HF_wC8.out HQ_wC8.out.1 kE⟩
          replace hS : Below wr.heap.size wr wE := bthen HBw4.out HEND.out.1
          clear hRE kE
          go_wp2
          refine ⟨rfl, hK _ _ hS ?_⟩
          clear hK K
          refine MixH.takes [false, false, false, false, false, false, false, false, false, false, true] 0 (by kernel_rfl) (by kernel_rfl) (by decide) (by kernel_rfl) hS (fun K hK => ?_)
          simp only [Mix.pick]
          repeat (go_big_quiet_step (fail))
          refine wpQuiet_nil (hK _ ?_)
          clear hK K
          refine MixH.done (by kernel_rfl) ?_
          go_wp2
          go_meet
          exact ⟨Q, db, m2, mc2, rfl, rfl, HEND⟩
      case rest =>
        obtain ⟨O16, db, m2, mc2, rfl, rfl, HU5⟩ := hcut
        obtain ⟨w5, hw5⟩ : ∃ z, z = wc := ⟨_, rfl⟩
        rw [← hw5] at HU5 ⊢
        clear hw5
        have HBw5 : Hid (Below wr.heap.size wr w5) := bthen HBw4.out HU5.out.1
        have HV5 : Hid (UAt w5 O14 u da m m ∧ DOk w5 u.d da m m ∧ UAt w5 O16 u db m2 mc2 ∧ DOk w5 u.d db m2 mc2) := ⟨UAt.below HU4.out.1 HU5.out.1, HU4.out.2.old HU5.out.1, HU5.out.2.1, HU5.out.2.2⟩
        have HZw5 : Hid (wr.heap.size ≤ w5.heap.size) := HBw5.out.size
        clear HU4 HU5 HZw4
        have Q1 : Hid _ := parseT_p V U x y (some ⟨g, 0, none⟩) n M l w5 (KR.out w5 HBw5.out).2.2.2.1.t (KR.out w5 HBw5.out).2.2.2.1.l (KR.out w5 HBw5.out).2.2.2.2.1 HX.out HY.out
        have HX1 : Hid (Boxed w5 B V x ∧ Boxed w5 (B + 1) U y) := ⟨(KR.out w5 HBw5.out).2.1, (KR.out w5 HBw5.out).2.2.1⟩
        go_wp2_with (first | (refine wpList_load_ip (.tmp 4) rfl B V x rfl HX1.out.1 rfl ?_) | (refine wpList_load_ip (.tmp 5) rfl (B + 1) U y rfl HX1.out.2 rfl ?_))
        refine Calls.mono Q1.out ?_
        rintro e wq ⟨la, ln, lc, os, dt, mt, oe, rfl, hb2, hf2, ho2, hol, hol4⟩
        obtain ⟨t, hu⟩ : ∃ t, t = pTv V U x y l := ⟨_, rfl⟩
        obtain ⟨et, her⟩ : ∃ et : Nat, et = pTe V U x y l := ⟨_, rfl⟩
        have HT : Hid (pTv V U x y l = t ∧ pTe V U x y l = et) := ⟨hu.symm, her.symm⟩
        rw [← hu] at hf2 ⊢
        rw [← her]
        clear hu her
        replace hf2 := And.intro hf2 (And.intro ho2 (And.intro hol hol4))
        clear ho2 hol hol4
        have b3 : Below wq.heap.size wq (wq.alloc (.cells (tC t9z none 0 0 none 0 0) 45)) := (Below.refl _ _).alloc (Nat.le_refl _) _
        obtain ⟨w3, hw3⟩ : ∃ w3, w3 = wq.alloc (.cells (tC t9z none 0 0 none 0 0) 45) := ⟨_, rfl⟩
        obtain ⟨O18, hO⟩ : ∃ O18, O18 = wq.heap.size := ⟨_, rfl⟩
        have HNB : Hid (TAt w3 O18 t9z none 0 0 none 0 0) := by rw [hw3, hO]; exact tAt_new _ _ _ _ _ _ _ _
        rw [← hw3] at b3
        have HW3 : Hid (wq.alloc (.cells #[.int .i64 0, .int .i64 0, .int .i64 0, .int .i64 0, .int .i64 0, .int .i64 0, .int .i64 0, .slice none 0 0, .slice none 0 0] 45) = w3 ∧ wq.heap.size = O18) := ⟨hw3.symm, hO.symm⟩
        have HB2 : Hid (Below w5.heap.size w5 wq ∧ Below wq.heap.size wq w3) := ⟨hb2, b3⟩
        have HF2 : Hid (TOk wq t la ln os dt mt mt ∧ Ll.OwnO wq w5.heap.size (.slice la ln lc) ln oe ∧ oe.length = ln ∧ ln ≤ 40) := hf2
        clear Q1 HX1 hb2 hf2 b3 hw3 hO
        go_wp2_with (refine wpList_store_t9 (.tmp 18) (.tmp 68) rfl rfl O18 t9z none 0 0 none 0 0 t la ln lc dt mt mt (by rw [← HW3.out.2]; rfl) rfl (by have h := HNB.out; rw [← HW3.out.1] at h; exact h) rfl ?_)
        rw [HW3.out.1, HW3.out.2]
        intro w7 hR4 k4
        have hb24 : Below wq.heap.size wq w7 := HB2.out.2.trans (k4.below (fun q s => by have e : q = O18 := s; have := HW3.out.2; omega) HB2.out.2.size)
        have hb14 : Below w5.heap.size w5 w7 := bthen HB2.out.1 hb24
        have HBw7 : Hid (Below wr.heap.size wr w7) := bthen HBw5.out hb14
        have HZw7 : Hid (w5.heap.size ≤ w7.heap.size) := hb14.size
        have HT7 : Hid (TAt w7 O18 t la ln lc dt mt mt ∧ TOk w7 t la ln os dt mt mt ∧ Ll.OwnO w7 w5.heap.size (.slice la ln lc) ln oe) := ⟨hR4, HF2.out.1.old hb24, owns_below HF2.out.2.1 hb24⟩
        have HV7 : Hid (UAt w7 O14 u da m m ∧ DOk w7 u.d da m m ∧ UAt w7 O16 u db m2 mc2 ∧ DOk w7 u.d db m2 mc2) := ⟨UAt.below HV5.out.1 hb14, HV5.out.2.1.old hb14, UAt.below HV5.out.2.2.1 hb14, HV5.out.2.2.2.old hb14⟩
        have HOE : Hid (oe.length = ln ∧ ln ≤ 40) := ⟨HF2.out.2.2.1, HF2.out.2.2.2⟩
        clear HV5
        clear hR4 k4 hb24 hb14 HNB HW3 HB2 HF2
        go_upto_region 13 with fail
        go_cut [20, 21] (fun px ex wx => ∃ Q lb ln2 lc2 os2 db m2 mc2, px = .pointer (some ⟨Q, 0, none⟩) ∧ ex = .int .i64 (et : Nat) ∧ Hid (Below w7.heap.size w7 wx ∧ TAt wx Q t lb ln2 lc2 db m2 mc2 ∧ TOk wx t lb ln2 os2 db m2 mc2))
        case first =>
          have QCP : Hid (∀ A, Below wr.heap.size wr A → Calls Tryd.prog 5 #[.slice va n vc] A fun e w' => ∃ v, e = .returned v ∧ w'.ownsRow A.heap.size 5 1 v n ((toI l).map (Value.int .u8)) ∧ Below A.heap.size A w') := fun A hA => copied_any va n vc l A HLEN.out (KR.out A hA).2.2.2.2.2.seg (by omega)
          refine MixH.start (fun A => Below wr.heap.size wr A) (by kernel_rfl) ?_
          obtain ⟨wA, hwA⟩ : ∃ wA, wA = w7.drew := ⟨_, rfl⟩
          have hS : Below wr.heap.size wr wA := by rw [hwA]; exact HBw7.out.drew
          have BK_wA : Hid (Below w7.heap.size w7 wA) := by rw [hwA]; exact (Below.refl _ _).drew
          rw [← hwA]
          clear hwA
          refine MixH.takes [false, false, true] 10 (by kernel_rfl) (by kernel_rfl) (by decide) (by kernel_rfl) hS (fun K hK => ?_)
          simp only [Mix.pick]
          repeat (go_big_quiet_step (fail))
          refine wpQuiet_nil (hK _ ?_)
          clear hK K
          refine MixH.take 9 0 _ (.agg (ipCells V x)) rfl (by kernel_rfl) (by kernel_rfl) (by kernel_rfl) (by kernel_rfl) (yields_ip (.tmp 4) rfl B V x rfl rfl (fun A hA => (KR.out A hA).2.1)) hS (fun a' ha => ?_)
          simp only [Act.put, List.setIfInBounds_toArray, List.set_cons_succ, List.set_cons_zero] at ha
          subst ha
          refine MixH.take 8 1 _ (.agg (ipCells U y)) rfl (by kernel_rfl) (by kernel_rfl) (by kernel_rfl) (by kernel_rfl) (yields_ip (.tmp 5) rfl (B + 1) U y rfl rfl (fun A hA => (KR.out A hA).2.2.1)) hS (fun a' ha => ?_)
          simp only [Act.put, List.setIfInBounds_toArray, List.set_cons_succ, List.set_cons_zero] at ha
          subst ha
          refine MixH.pair [false, false, false, true] [false, false, false, false, false, false, false, false, true] 7 3 8 _ _ rfl rfl rfl rfl (by kernel_rfl) (by kernel_rfl) (fun K hK => ?_) (fun K hK => ?_)
          · simp only [Mix.pick]
            go_wp2_with fail
            refine Calls.mono (QCP.out wA hS) ?_
            rintro ex wC1 ⟨vv, rfl, hoB, hbB⟩
            obtain ⟨a3, c3, hvv⟩ := owns_shape hoB
            subst hvv
            have HD3 : Hid (DOk wC1 l a3 n c3) := own_dok hoB HL256.out (by omega)
            have BK_wC1 : Hid (Below w7.heap.size w7 wC1) := bthen BK_wA.out hbB
            replace hS : Below wr.heap.size wr wC1 := bthen hS hbB
            clear hoB hbB BK_wA
            go_wp2
            refine ⟨rfl, hK _ _ hS ?_⟩
            clear hK K
            refine MixH.pair [false, false, false, false, true] [false, false, false, false, false, false, false, false, true] 6 4 8 _ _ rfl rfl rfl rfl (by kernel_rfl) (by kernel_rfl) (fun K hK => ?_) (fun K hK => ?_)
            · simp only [Mix.pick]
              have QQ : Hid _ := rparseT_o V U x y a3 n c3 l wC1 HD3.out HX.out HY.out
              rw [HT.out.1, HT.out.2] at QQ
              go_wp2_with fail
              refine Calls.mono QQ.out ?_
              rintro ex wC2 ⟨lb, ln2, lc2, os2, db, m2, mc2, rfl, hb5, hf5⟩
              have HF_wC2 : Hid (TOk wC2 t lb ln2 os2 db m2 mc2 ∧ (∀ z, lb = some z → wC1.heap.size ≤ z.block) ∧ (∀ o ∈ os2, ∀ z, o.a = some z → wC1.heap.size ≤ z.block)) := hf5
              have BK_wC2 : Hid (Below w7.heap.size w7 wC2) := bthen BK_wC1.out hb5
              replace hS : Below wr.heap.size wr wC2 := bthen hS hb5
              clear hf5 hb5 BK_wC1 QQ HD3
              go_wp2
              refine ⟨rfl, hK _ _ hS ?_⟩
              clear hK K
              refine MixH.takes [false, false, false, false, false, true, true, true] 3 (by kernel_rfl) (by kernel_rfl) (by decide) (by kernel_rfl) hS (fun K hK => ?_)
              simp only [Mix.pick]
              repeat (go_big_quiet_step (fail))
              refine wpQuiet_nil (hK _ ?_)
              clear hK K
              refine MixH.one [false, false, false, false, false, false, false, false, true] 2 8 _ rfl rfl (by kernel_rfl) (by kernel_rfl) (fun K hK => ?_)
              simp only [Mix.pick]
              have hSn : Below wr.heap.size wr (wC2.alloc (.cells #[.int .i64 0, .int .i64 0, .int .i64 0, .int .i64 0, .int .i64 0, .int .i64 0, .int .i64 0, .slice none 0 0, .slice none 0 0] 45)) := hS.alloc hS.size _
              go_wp2
              clear hS
              have hS := hSn
              refine ⟨rfl, hK _ _ hS ?_⟩
              clear hK K
              obtain ⟨wC3, hwwC3⟩ : ∃ z, z = wC2.alloc (.cells #[.int .i64 0, .int .i64 0, .int .i64 0, .int .i64 0, .int .i64 0, .int .i64 0, .int .i64 0, .slice none 0 0, .slice none 0 0] 45) := ⟨_, rfl⟩
              obtain ⟨Q, hQ⟩ : ∃ Q, Q = wC2.heap.size := ⟨_, rfl⟩
              have bq : Below wC2.heap.size wC2 wC3 := by rw [hwwC3]; exact (Below.refl _ _).alloc (Nat.le_refl _) _
              have HQ_wC3 : Hid (TAt wC3 Q t9z none 0 0 none 0 0 ∧ w7.heap.size ≤ Q) := ⟨by rw [hwwC3, hQ]; exact tAt_new wC2 t9z none 0 0 none 0 0, by rw [hQ]; exact BK_wC2.out.size⟩
              have BK_wC3 : Hid (Below w7.heap.size w7 wC3) := bthen BK_wC2.out bq
              have HBQ : Hid (Below wC2.heap.size wC2 wC3 ∧ wC2.heap.size ≤ Q) := ⟨bq, by rw [hQ]; exact Nat.le_refl _⟩
              rw [← hwwC3] at hS hSn ⊢
              rw [← hQ]
              clear hwwC3 hQ bq hSn BK_wC2
              refine MixH.one [false, false, false, false, false, false, false, false, false, true] 1 9 _ rfl rfl (by kernel_rfl) (by kernel_rfl) (fun K hK => ?_)
              simp only [Mix.pick]
              refine wpList_store_t9 (.tmp 20) (.tmp 76) rfl rfl Q t9z none 0 0 none 0 0 t lb ln2 lc2 db m2 mc2 rfl rfl HQ_wC3.out.1 rfl ?_
              intro wE hRE kE
              have HEND : Hid (Below w7.heap.size w7 wE ∧ TAt wE Q t lb ln2 lc2 db m2 mc2 ∧ TOk wE t lb ln2 os2 db m2 mc2) := by
                have hlq : w7.heap.size ≤ Q := HQ_wC3.out.2
                exact ⟨BK_wC3.out.trans (kE.below (fun q e => by have e' : q = Q := e; omega) BK_wC3.out.size), hRE, HF_wC2.out.1.old (HBQ.out.1.trans (kE.below (fun q e => by have e' : q = Q := e; have := HBQ.out.2; omega) HBQ.out.1.size))⟩
              replace hS : Below wr.heap.size wr wE := bthen HBw7.out HEND.out.1
              clear hRE kE
              go_wp2
              refine ⟨rfl, hK _ _ hS ?_⟩
              clear hK K
              refine MixH.takes [false, false, false, false, false, false, false, false, false, false, true] 0 (by kernel_rfl) (by kernel_rfl) (by decide) (by kernel_rfl) hS (fun K hK => ?_)
              simp only [Mix.pick]
              repeat (go_big_quiet_step (fail))
              refine wpQuiet_nil (hK _ ?_)
              clear hK K
              refine MixH.done (by kernel_rfl) ?_
              go_wp2
              go_meet
              exact ⟨Q, lb, ln2, lc2, os2, db, m2, mc2, rfl, rfl, HEND⟩
            · simp only [Mix.pick]
              have hSn : Below wr.heap.size wr (wC1.alloc (.cells #[.int .i64 0, .int .i64 0, .int .i64 0, .int .i64 0, .int .i64 0, .int .i64 0, .int .i64 0, .slice none 0 0, .slice none 0 0] 45)) := hS.alloc hS.size _
              go_wp2
              clear hS
              have hS := hSn
              refine ⟨rfl, hK _ _ hS ?_⟩
              clear hK K
              obtain ⟨wC4, hwwC4⟩ : ∃ z, z = wC1.alloc (.cells #[.int .i64 0, .int .i64 0, .int .i64 0, .int .i64 0, .int .i64 0, .int .i64 0, .int .i64 0, .slice none 0 0, .slice none 0 0] 45) := ⟨_, rfl⟩
              obtain ⟨Q, hQ⟩ : ∃ Q, Q = wC1.heap.size := ⟨_, rfl⟩
              have bq : Below wC1.heap.size wC1 wC4 := by rw [hwwC4]; exact (Below.refl _ _).alloc (Nat.le_refl _) _
              have HQ_wC4 : Hid (TAt wC4 Q t9z none 0 0 none 0 0 ∧ w7.heap.size ≤ Q) := ⟨by rw [hwwC4, hQ]; exact tAt_new wC1 t9z none 0 0 none 0 0, by rw [hQ]; exact BK_wC1.out.size⟩
              have BK_wC4 : Hid (Below w7.heap.size w7 wC4) := bthen BK_wC1.out bq
              replace HD3 : Hid (DOk wC4 l a3 n c3) := HD3.out.old bq
              rw [← hwwC4] at hS hSn ⊢
              rw [← hQ]
              clear hwwC4 hQ bq hSn BK_wC1
              refine MixH.one [false, false, false, false, true] 5 4 _ rfl rfl (by kernel_rfl) (by kernel_rfl) (fun K hK => ?_)
              simp only [Mix.pick]
              have QQ : Hid _ := rparseT_o V U x y a3 n c3 l wC4 HD3.out HX.out HY.out
              rw [HT.out.1, HT.out.2] at QQ
              go_wp2_with fail
              refine Calls.mono QQ.out ?_
              rintro ex wC5 ⟨lb, ln2, lc2, os2, db, m2, mc2, rfl, hb5, hf5⟩
              have HF_wC5 : Hid (TOk wC5 t lb ln2 os2 db m2 mc2 ∧ (∀ z, lb = some z → wC4.heap.size ≤ z.block) ∧ (∀ o ∈ os2, ∀ z, o.a = some z → wC4.heap.size ≤ z.block)) := hf5
              have HQ_wC5 : Hid (TAt wC5 Q t9z none 0 0 none 0 0 ∧ w7.heap.size ≤ Q ∧ Q < wC4.heap.size) := ⟨TAt.below HQ_wC4.out.1 hb5, HQ_wC4.out.2, HQ_wC4.out.1.lt⟩
              clear HQ_wC4
              have BK_wC5 : Hid (Below w7.heap.size w7 wC5) := bthen BK_wC4.out hb5
              replace hS : Below wr.heap.size wr wC5 := bthen hS hb5
              clear hf5 hb5 BK_wC4 QQ HD3
              go_wp2
              refine ⟨rfl, hK _ _ hS ?_⟩
              clear hK K
              refine MixH.takes [false, false, false, false, false, true, true, true] 2 (by kernel_rfl) (by kernel_rfl) (by decide) (by kernel_rfl) hS (fun K hK => ?_)
              simp only [Mix.pick]
              repeat (go_big_quiet_step (fail))
              refine wpQuiet_nil (hK _ ?_)
              clear hK K
              refine MixH.one [false, false, false, false, false, false, false, false, false, true] 1 9 _ rfl rfl (by kernel_rfl) (by kernel_rfl) (fun K hK => ?_)
              simp only [Mix.pick]
              refine wpList_store_t9 (.tmp 20) (.tmp 76) rfl rfl Q t9z none 0 0 none 0 0 t lb ln2 lc2 db m2 mc2 rfl rfl HQ_wC5.out.1 rfl ?_
              intro wE hRE kE
              have HEND : Hid (Below w7.heap.size w7 wE ∧ TAt wE Q t lb ln2 lc2 db m2 mc2 ∧ TOk wE t lb ln2 os2 db m2 mc2) := by
                have hlq : w7.heap.size ≤ Q := HQ_wC5.out.2.1
                exact ⟨BK_wC5.out.trans (kE.below (fun q e => by have e' : q = Q := e; omega) BK_wC5.out.size), hRE, tokT_store HF_wC5.out HQ_wC5.out.1 HQ_wC5.out.2.2 kE⟩
              replace hS : Below wr.heap.size wr wE := bthen HBw7.out HEND.out.1
              clear hRE kE
              go_wp2
              refine ⟨rfl, hK _ _ hS ?_⟩
              clear hK K
              refine MixH.takes [false, false, false, false, false, false, false, false, false, false, true] 0 (by kernel_rfl) (by kernel_rfl) (by decide) (by kernel_rfl) hS (fun K hK => ?_)
              simp only [Mix.pick]
              repeat (go_big_quiet_step (fail))
              refine wpQuiet_nil (hK _ ?_)
              clear hK K
              refine MixH.done (by kernel_rfl) ?_
              go_wp2
              go_meet
              exact ⟨Q, lb, ln2, lc2, os2, db, m2, mc2, rfl, rfl, HEND⟩
          · simp only [Mix.pick]
            have hSn : Below wr.heap.size wr (wA.alloc (.cells #[.int .i64 0, .int .i64 0, .int .i64 0, .int .i64 0, .int .i64 0, .int .i64 0, .int .i64 0, .slice none 0 0, .slice none 0 0] 45)) := hS.alloc hS.size _
            go_wp2
            clear hS
            have hS := hSn
            refine ⟨rfl, hK _ _ hS ?_⟩
            clear hK K
            obtain ⟨wC6, hwwC6⟩ : ∃ z, z = wA.alloc (.cells #[.int .i64 0, .int .i64 0, .int .i64 0, .int .i64 0, .int .i64 0, .int .i64 0, .int .i64 0, .slice none 0 0, .slice none 0 0] 45) := ⟨_, rfl⟩
            obtain ⟨Q, hQ⟩ : ∃ Q, Q = wA.heap.size := ⟨_, rfl⟩
            have bq : Below wA.heap.size wA wC6 := by rw [hwwC6]; exact (Below.refl _ _).alloc (Nat.le_refl _) _
            have HQ_wC6 : Hid (TAt wC6 Q t9z none 0 0 none 0 0 ∧ w7.heap.size ≤ Q) := ⟨by rw [hwwC6, hQ]; exact tAt_new wA t9z none 0 0 none 0 0, by rw [hQ]; exact BK_wA.out.size⟩
            have BK_wC6 : Hid (Below w7.heap.size w7 wC6) := bthen BK_wA.out bq
            rw [← hwwC6] at hS hSn ⊢
            rw [← hQ]
            clear hwwC6 hQ bq hSn BK_wA
            refine MixH.one [false, false, false, true] 6 3 _ rfl rfl (by kernel_rfl) (by kernel_rfl) (fun K hK => ?_)
            simp only [Mix.pick]
            go_wp2_with fail
            refine Calls.mono (QCP.out wC6 hS) ?_
            rintro ex wC7 ⟨vv, rfl, hoB, hbB⟩
            obtain ⟨a3, c3, hvv⟩ := owns_shape hoB
            subst hvv
            have HD3 : Hid (DOk wC7 l a3 n c3) := own_dok hoB HL256.out (by omega)
            have HQ_wC7 : Hid (TAt wC7 Q t9z none 0 0 none 0 0 ∧ w7.heap.size ≤ Q) := ⟨TAt.below HQ_wC6.out.1 hbB, HQ_wC6.out.2⟩
            clear HQ_wC6
            have BK_wC7 : Hid (Below w7.heap.size w7 wC7) := bthen BK_wC6.out hbB
            replace hS : Below wr.heap.size wr wC7 := bthen hS hbB
            clear hoB hbB BK_wC6
            go_wp2
            refine ⟨rfl, hK _ _ hS ?_⟩
            clear hK K
            refine MixH.one [false, false, false, false, true] 5 4 _ rfl rfl (by kernel_rfl) (by kernel_rfl) (fun K hK => ?_)
            simp only [Mix.pick]
            have QQ : Hid _ := rparseT_o V U x y a3 n c3 l wC7 HD3.out HX.out HY.out
            rw [HT.out.1, HT.out.2] at QQ
            go_wp2_with fail
            refine Calls.mono QQ.out ?_
            rintro ex wC8 ⟨lb, ln2, lc2, os2, db, m2, mc2, rfl, hb5, hf5⟩
            have HF_wC8 : Hid (TOk wC8 t lb ln2 os2 db m2 mc2 ∧ (∀ z, lb = some z → wC7.heap.size ≤ z.block) ∧ (∀ o ∈ os2, ∀ z, o.a = some z → wC7.heap.size ≤ z.block)) := hf5
            have HQ_wC8 : Hid (TAt wC8 Q t9z none 0 0 none 0 0 ∧ w7.heap.size ≤ Q ∧ Q < wC7.heap.size) := ⟨TAt.below HQ_wC7.out.1 hb5, HQ_wC7.out.2, HQ_wC7.out.1.lt⟩
            clear HQ_wC7
            have BK_wC8 : Hid (Below w7.heap.size w7 wC8) := bthen BK_wC7.out hb5
            replace hS : Below wr.heap.size wr wC8 := bthen hS hb5
            clear hf5 hb5 BK_wC7 QQ HD3
            go_wp2
            refine ⟨rfl, hK _ _ hS ?_⟩
            clear hK K
            refine MixH.takes [false, false, false, false, false, true, true, true] 2 (by kernel_rfl) (by kernel_rfl) (by decide) (by kernel_rfl) hS (fun K hK => ?_)
            simp only [Mix.pick]
            repeat (go_big_quiet_step (fail))
            refine wpQuiet_nil (hK _ ?_)
            clear hK K
            refine MixH.one [false, false, false, false, false, false, false, false, false, true] 1 9 _ rfl rfl (by kernel_rfl) (by kernel_rfl) (fun K hK => ?_)
            simp only [Mix.pick]
            refine wpList_store_t9 (.tmp 20) (.tmp 76) rfl rfl Q t9z none 0 0 none 0 0 t lb ln2 lc2 db m2 mc2 rfl rfl HQ_wC8.out.1 rfl ?_
            intro wE hRE kE
            have HEND : Hid (Below w7.heap.size w7 wE ∧ TAt wE Q t lb ln2 lc2 db m2 mc2 ∧ TOk wE t lb ln2 os2 db m2 mc2) := by
              have hlq : w7.heap.size ≤ Q := HQ_wC8.out.2.1
              exact ⟨BK_wC8.out.trans (kE.below (fun q e => by have e' : q = Q := e; omega) BK_wC8.out.size), hRE, tokT_store HF_wC8.out HQ_wC8.out.1 HQ_wC8.out.2.2 kE⟩
            replace hS : Below wr.heap.size wr wE := bthen HBw7.out HEND.out.1
            clear hRE kE
            go_wp2
            refine ⟨rfl, hK _ _ hS ?_⟩
            clear hK K
            refine MixH.takes [false, false, false, false, false, false, false, false, false, false, true] 0 (by kernel_rfl) (by kernel_rfl) (by decide) (by kernel_rfl) hS (fun K hK => ?_)
            simp only [Mix.pick]
            repeat (go_big_quiet_step (fail))
            refine wpQuiet_nil (hK _ ?_)
            clear hK K
            refine MixH.done (by kernel_rfl) ?_
            go_wp2
            go_meet
            exact ⟨Q, lb, ln2, lc2, os2, db, m2, mc2, rfl, rfl, HEND⟩
        case rest =>
          obtain ⟨O20, lb, ln2, lc2, os2, dv, mv, mc3, rfl, rfl, HT8⟩ := hcut
          obtain ⟨w8, hw8⟩ : ∃ z, z = wc := ⟨_, rfl⟩
          rw [← hw8] at HT8 ⊢
          clear hw8
          have HBw8 : Hid (Below wr.heap.size wr w8) := bthen HBw7.out HT8.out.1
          have HV8 : Hid (UAt w8 O14 u da m m ∧ DOk w8 u.d da m m ∧ UAt w8 O16 u db m2 mc2 ∧ DOk w8 u.d db m2 mc2) := ⟨UAt.below HV7.out.1 HT8.out.1, HV7.out.2.1.old HT8.out.1, UAt.below HV7.out.2.2.1 HT8.out.1, HV7.out.2.2.2.old HT8.out.1⟩
          have HS8 : Hid (TAt w8 O18 t la ln lc dt mt mt ∧ TOk w8 t la ln os dt mt mt ∧ Ll.OwnO w8 w5.heap.size (.slice la ln lc) ln oe ∧ TAt w8 O20 t lb ln2 lc2 dv mv mc3 ∧ TOk w8 t lb ln2 os2 dv mv mc3) := ⟨TAt.below HT7.out.1 HT8.out.1, HT7.out.2.1.old HT8.out.1, owns_below HT7.out.2.2 HT8.out.1, HT8.out.2.1, HT8.out.2.2⟩
          have HLT8 : Hid (∀ q, (Value.slice la ln lc).ownBlock = some q → q < w8.heap.size) := fun q hq => (HS8.out.2.2.1.lt q hq).2
          clear HT7 HT8 HV7
          have QO : Hid _ := topt_o (some ⟨g, 0, none⟩) M n l w8 (KR.out w8 HBw8.out).2.2.2.1.l (KR.out w8 HBw8.out).2.2.2.2.1
          obtain ⟨ox, hox⟩ : ∃ ox : Nat, ox = roE l := ⟨_, rfl⟩
          have HOX : Hid (roE l = ox) := hox.symm
          rw [← hox] at QO
          clear hox
          go_wp2_with fail
          refine Calls.mono QO.out ?_
          rintro e w9 ⟨ga, kn, gc, ls, rfl, hb9, hat9, hll9, hkn9, hvs9, oe9, hown9, hoe9⟩
          have HA9 : Hid (OptsAt w9 ga ls ∧ ls.length = kn ∧ kn ≤ 40 ∧ vals ls = roV l ∧ oe9.length = kn ∧ w8.heap.size ≤ w9.heap.size) := ⟨hat9, hll9, hkn9, hvs9, hoe9, hb9.size⟩
          have HO9 : Hid (Ll.OwnO w9 w8.heap.size (.slice ga kn gc) kn oe9) := hown9
          have HBw9 : Hid (Below wr.heap.size wr w9) := bthen HBw8.out hb9
          have B89 : Hid (Below w8.heap.size w8 w9) := hb9
          have QC9 : Hid _ := copied_any va n vc l w9 HLEN.out (KR.out w9 HBw9.out).2.2.2.2.2.seg (by omega)
          clear QO hb9 hat9 hll9 hkn9 hvs9 hown9 hoe9
          go_wp2_with fail
          refine Calls.mono QC9.out ?_
          rintro e w10 ⟨v10, rfl, ho10, hb10⟩
          obtain ⟨a10, c10, rfl⟩ := owns_shape ho10
          have QR10 : Hid _ := ropts_v a10 n c10 l w10 (own_dok ho10 HL256.out (by omega))
          rw [HOX.out] at QR10
          have B90 : Hid (Below w9.heap.size w9 w10) := hb10
          clear QC9 ho10 hb10
          go_wp2_with fail
          refine Calls.mono QR10.out ?_
          rintro e w11 ⟨gb, kn2, gc2, ls2, rfl, hb11, hat2, hll2, hvs2⟩
          have B91 : Hid (Below w9.heap.size w9 w11) := bthen B90.out hb11
          have ek : kn2 = kn := by
            have h := congrArg List.length (hvs2.trans HA9.out.2.2.2.1.symm)
            simp only [vals, List.length_map] at h
            rw [← hll2, ← HA9.out.2.1, h]
          cases ek
          have B81 : Hid (Below w8.heap.size w8 w11) := bthen B89.out B91.out
          have HBw11 : Hid (Below wr.heap.size wr w11) := bthen HBw9.out B91.out
          have HV11 : Hid (UAt w11 O14 u da m m ∧ DOk w11 u.d da m m ∧ UAt w11 O16 u db m2 mc2 ∧ DOk w11 u.d db m2 mc2) := ⟨UAt.below HV8.out.1 B81.out, HV8.out.2.1.old B81.out, UAt.below HV8.out.2.2.1 B81.out, HV8.out.2.2.2.old B81.out⟩
          have HS11 : Hid (TAt w11 O18 t la ln lc dt mt mt ∧ TOk w11 t la ln os dt mt mt ∧ Ll.OwnO w11 w5.heap.size (.slice la ln lc) ln oe ∧ TAt w11 O20 t lb ln2 lc2 dv mv mc3 ∧ TOk w11 t lb ln2 os2 dv mv mc3) := ⟨TAt.below HS8.out.1 B81.out, HS8.out.2.1.old B81.out, owns_below HS8.out.2.2.1 B81.out, TAt.below HS8.out.2.2.2.1 B81.out, HS8.out.2.2.2.2.old B81.out⟩
          have HA11 : Hid (OptsAt w11 ga ls ∧ OptsAt w11 gb ls2 ∧ vals ls = vals ls2 ∧ Ll.OwnO w11 w8.heap.size (.slice ga kn gc) kn oe9) := ⟨HA9.out.1.old B91.out, hat2, HA9.out.2.2.2.1.trans hvs2.symm, owns_below HO9.out B91.out⟩
          have em : m2 = m := by rw [← HV11.out.2.2.2.dl, ← HV11.out.2.1.dl]
          cases em
          have emv : mv = mt := by rw [← HS11.out.2.2.2.2.d.dl, ← HS11.out.2.1.d.dl]
          cases emv
          have el : ln2 = ln := by
            have h1 := congrArg List.length (HS11.out.2.2.2.2.ov.trans HS11.out.2.1.ov.symm)
            simp only [vals, List.length_map] at h1
            rw [← HS11.out.2.2.2.2.ol, ← HS11.out.2.1.ol, h1]
          cases el
          clear QR10 hb11 hat2 hll2 hvs2 HV8 HS8 HO9 B90 B91
          have e1 : ((er : Int) != (er : Int)) = false := by simp
          have e2 : ((et : Int) != (et : Int)) = false := by simp
          have e3 : ((ox : Int) != (ox : Int)) = false := by simp
          have QU2 : Hid _ := sameU_true u da db m m mc2 w11 HV11.out.2.1 HV11.out.2.2.2
          go_upto_region 16 with fail
          go_wp2_with fail
          refine Calls.mono (num9_any (er : Int) w11) ?_
          rintro e wn ⟨rfl, rfl⟩
          go_wp2_with (first | (refine wpList_load_u9 (.tmp 14) rfl O14 u da m m rfl HV11.out.1 rfl ?_) | (refine wpList_load_u9 (.tmp 16) rfl O16 u db m mc2 rfl HV11.out.2.2.1 rfl ?_))
          refine Calls.mono QU2.out ?_
          rintro e w12 ⟨rfl, hb12⟩
          have B12 : Hid (Below w11.heap.size w11 w12) := hb12
          have HS12 : Hid (TAt w12 O18 t la ln lc dt mt mt ∧ TAt w12 O20 t lb ln lc2 dv mt mc3) := ⟨TAt.below HS11.out.1 hb12, TAt.below HS11.out.2.2.2.1 hb12⟩
          have k1 := HS11.out.2.1.old hb12
          have k2 := HS11.out.2.2.2.2.old hb12
          have QT2 : Hid _ := sameT_true t la lb ln lc lc2 os os2 dt dv mt mt mc3 w12 k1.oat k2.oat k1.ol (k1.ov.trans k2.ov.symm) k1.on k1.d k2.d
          clear QU2 hb12 k1 k2 HV11
          go_wp2_with fail
          refine Calls.mono (num9_any (et : Int) w12) ?_
          rintro e wn ⟨rfl, rfl⟩
          go_wp2_with (first | (refine wpList_load_t9 (.tmp 18) rfl O18 t la ln lc dt mt mt rfl HS12.out.1 rfl ?_) | (refine wpList_load_t9 (.tmp 20) rfl O20 t lb ln lc2 dv mt mc3 rfl HS12.out.2 rfl ?_))
          refine Calls.mono QT2.out ?_
          rintro e w13 ⟨rfl, hb13⟩
          have B13 : Hid (Below w11.heap.size w11 w13) := bthen B12.out hb13
          have QP2 : Hid _ := sameOpts_true ga gb kn gc gc2 ls ls2 w13 (HA11.out.1.old B13.out) (HA11.out.2.1.old B13.out) HA9.out.2.1 HA11.out.2.2.1 (by have := HA9.out.2.2.1; omega)
          clear QT2 hb13 HS12 B12
          go_wp2_with fail
          refine Calls.mono (num9_any (ox : Int) w13) ?_
          rintro e wn ⟨rfl, rfl⟩
          go_wp2_with fail
          refine Calls.mono QP2.out ?_
          rintro e w14 ⟨rfl, hb14⟩
          have B14 : Hid (Below w11.heap.size w11 w14) := bthen B13.out hb14
          have QK : Hid _ := (KR.out w14 (bthen HBw11.out B14.out)).1.back
          clear QP2 hb14 B13
          go_wp2_with fail
          refine Calls.mono QK.out ?_
          rintro e w15 ⟨rfl, hb15⟩
          have B15 : Hid (Below w11.heap.size w11 w15) := bthen B14.out hb15
          have HBw15 : Hid (Below wr.heap.size wr w15) := bthen HBw11.out B15.out
          have STd : Hid _ := (KR.out w15 HBw15.out).1
          have HTd : Hid (TAt w15 O18 t la ln lc dt mt mt) := TAt.below HS11.out.1 B15.out
          have ct7 := HTd.out.c7
          have HOWd : Hid (Ll.OwnO w15 w5.heap.size (.slice la ln lc) ln oe) := owns_below HS11.out.2.2.1 B15.out
          have HO9d : Hid (Ll.OwnO w15 w8.heap.size (.slice ga kn gc) kn oe9) := owns_below HA11.out.2.2.2 B15.out
          have Z58 : Hid (wr.heap.size ≤ w5.heap.size ∧ wr.heap.size ≤ w8.heap.size) := ⟨HBw5.out.size, HBw8.out.size⟩
          have QKeep : Hid _ := STd.out.kept HOWd.out HOE.out.1 (by have := HOE.out.2; omega) (by have := HE.out; omega) (fun q hq => ST.out.fresh q (Nat.le_trans Z58.out.1 (HOWd.out.lt q hq).1)) (Nat.le_trans ST.out.hB Z58.out.1)
          clear QK hb15 B14
          go_wp2_with fail
          refine Calls.mono QKeep.out ?_
          rintro e y5 ⟨rfl, vL1, vW1, E1, STe, hE1, ch1, new1⟩
          have HEe : Hid (E1.length = E.length + 1) := hE1
          have STE : Hid _ := STe
          have nb9 : ∀ q, (Value.slice ga kn gc).ownBlock = some q → ¬ Ll.bB K vL vW E q := fun q hq => by
            have h8 := (HO9d.out.lt q hq).1
            exact (ST.out.fresh q (Nat.le_trans Z58.out.2 h8)).2.2.2
          have HO9e : Hid (Ll.OwnO y5 w8.heap.size (.slice ga kn gc) kn oe9) := ch1.owns HO9d.out nb9
          have QKeep2 : Hid _ := STE.out.kept HO9e.out HA9.out.2.2.2.2.1 (by have := HA9.out.2.2.1; omega) (by have := HE.out; have := HEe.out; omega) (fun q hq => by
            have h8 := (HO9d.out.lt q hq).1
            have h4 := (HO9d.out.lt q hq).2
            have hf := ST.out.fresh q (Nat.le_trans Z58.out.2 h8)
            refine ⟨hf.1, hf.2.1, hf.2.2.1, fun hb => ?_⟩
            rcases new1 q hb with o | o | o
            · exact hf.2.2.2 o
            · have hx := (HLT8.out q o); omega
            · omega) (Nat.le_trans ST.out.hB Z58.out.2)
          clear QKeep STe hE1 ch1 new1 nb9 ct7 HTd HOWd HO9d STd
          go_wp2_with fail
          refine Calls.mono QKeep2.out ?_
          rintro e y6 ⟨rfl, vL2, vW2, E2, STf, hE2, _, _⟩
          have HE2 : Hid (E2.length ≤ 2 * i + 2) := by have := HE.out; have := HEe.out; show _ ≤ _; omega
          have STF : Hid _ := STf
          clear QKeep2 STf hE2 STE HO9e ST HEe HE HOX KR HA9 HA11 HS11 HBw15 HBw11 B15 B81 B89 HBw9 HBw8 HBw7 HBw5 HBw4 HBwr HOE HU HT Z58 HLT8
          have wi : IntKind.i64.wrap ((i : Int) + 1) = (i : Int) + 1 := by rw [IntKind.wrap_i64]; omega
          by_cases ht : i < T
          · have t1 : (i : Int) < (T : Int) := by omega
            by_cases hn0 : 0 < n
            · have t2 : (n : Int) > 0 := by omega
              have t2' : (0 : Int) < (n : Int) := by omega
              obtain ⟨tv, htv⟩ : ∃ tv, rs[i]? = some tv := ⟨_, List.getElem?_eq_getElem (by rw [HTL.out]; exact ht)⟩
              obtain ⟨_, tb, toff, hta, tlt, tcs⟩ := (HTS.out y6 STF.out.bel).at i tv htv
              obtain ⟨tp, htp⟩ : ∃ tp, tp = tv.p := ⟨_, rfl⟩
              obtain ⟨tbv, htbv⟩ : ∃ tbv, tbv = tv.b := ⟨_, rfl⟩
              have HTC : Hid (∀ A, Below W.heap.size W A → A.cell? ⟨tb, toff + i * 2, none⟩ = some (.int .i64 tp) ∧ A.cell? ⟨tb, toff + i * 2 + 1, none⟩ = some (.int .i64 tbv)) := fun A hA => by
                obtain ⟨_, tb', toff', hta', _, tcs'⟩ := (HTS.out A hA).at i tv htv
                rw [hta] at hta'
                have e := Option.some.inj hta'
                simp only [Addr.mk.injEq, and_true] at e
                obtain ⟨rfl, rfl⟩ := e
                have z0 := tcs' 0 (by decide)
                have z1 := tcs' 1 (by decide)
                rw [Nat.add_zero] at z0
                rw [htp, htbv]
                exact ⟨z0, z1⟩
              have tc0 := (HTC.out y6 STF.out.bel).1
              have tc1 := (HTC.out y6 STF.out.bel).2
              obtain ⟨sp, hsp⟩ : ∃ sp, sp = spot tp n := ⟨_, rfl⟩
              have hspl : sp < n := by rw [hsp]; exact spot_lt tp n hn0
              have QSp : Hid _ := spot_any tp n y6 hn0 hnm
              rw [← hsp] at QSp
              obtain ⟨y, hy, hy2⟩ : ∃ y : Nat, IntKind.u8.wrap tbv = (y : Int) ∧ y < 256 := ⟨(IntKind.u8.wrap tbv).toNat, by simp [IntKind.wrap, IntKind.bits, IntKind.signed]; omega, by simp [IntKind.wrap, IntKind.bits, IntKind.signed]; omega⟩
              subst hta
              clear htv tcs htp htbv hsp tlt
              have i0 : (0 : Int) ≤ (i : Int) := by omega
              have i2 : ((i : Int)).toNat = i := by omega
              have s0 : (0 : Int) ≤ (sp : Int) := by omega
              have s1 : (sp : Int) < (n : Int) := by omega
              have s2 : ((sp : Int)).toNat = sp := by omega
              go_wp2_with fail
              refine Calls.mono QSp.out ?_
              rintro e xs ⟨rfl, rfl⟩
              obtain ⟨⟨pz, pc⟩, pf, STP⟩ := STF.out.put sp y hspl hy2
              obtain ⟨qb, hqb, ⟨qz, qc⟩, qf, STQ⟩ := STP.put2 sp y hspl hy2
              subst hqb
              have STN : Hid _ := STQ
              obtain ⟨tc2, tc3⟩ := HTC.out _ STP.bel
              clear STP STQ QSp HTC STF
              go_wp2_with fail
              have QU : Hid _ := Ll.untouched_any _ W.heap.size K vL2 vW2 E2 STN.out.lists (by have := HE2.out; omega)
              refine Calls.mono QU.out ?_
              rintro e xU ⟨rfl, hbU⟩
              have STU : Hid _ := STN.out.below hbU
              clear QU hbU STN
              go_wp2
              go_roundw
              case rel => exact ⟨i + 1, _, _, _, E2, by omega, by go_num, STU.out, by have := HE2.out; omega⟩
              case measure => simp [intOf]; omega
            · have t2 : ¬ ((n : Int) > 0) := by omega
              have t2' : ¬ ((0 : Int) < (n : Int)) := by omega
              have STN : Hid _ := STF.out
              clear STF
              have QU : Hid _ := Ll.untouched_any y6 W.heap.size K vL2 vW2 E2 STN.out.lists (by have := HE2.out; omega)
              go_wp2_with fail
              refine Calls.mono QU.out ?_
              rintro e xU ⟨rfl, hbU⟩
              have STU : Hid _ := STN.out.below hbU
              clear QU hbU STN
              go_wp2
              go_roundw
              case rel => exact ⟨i + 1, _, _, _, E2, by omega, by go_num, STU.out, by have := HE2.out; omega⟩
              case measure => simp [intOf]; omega
          · have t1 : ¬ ((i : Int) < (T : Int)) := by omega
            have STN : Hid _ := STF.out
            clear STF
            have QU : Hid _ := Ll.untouched_any y6 W.heap.size K vL2 vW2 E2 STN.out.lists (by have := HE2.out; omega)
            go_wp2_with fail
            refine Calls.mono QU.out ?_
            rintro e xU ⟨rfl, hbU⟩
            have STU : Hid _ := STN.out.below hbU
            clear QU hbU STN
            go_wp2
            go_roundw
            case rel => exact ⟨i + 1, _, _, _, E2, by omega, by go_num, STU.out, by have := HE2.out; omega⟩
            case measure => simp [intOf]; omega
    · by_cases hT1 : i ≤ T
      · have d1 : (i : Int) ≤ (T : Int) := by omega
        have d2 : ¬ ((i : Int) < 40) := by omega
        have QE : Hid _ := Ll.settle_any wr W.heap.size K vL vW E SS.out.1.lists (by have := SS.out.2; omega) SS.out.1.hB
        go_wp2_with fail
        refine Calls.mono QE.out ?_
        rintro e wE ⟨rfl, hbE⟩
        have hfin := bthen HBEL.out (SS.out.1.bel.trans hbE)
        go_wp2
        go_ret
        exact ⟨rfl, hfin⟩
      · have d1 : ¬ ((i : Int) ≤ (T : Int)) := by omega
        have QE : Hid _ := Ll.settle_any wr W.heap.size K vL vW E SS.out.1.lists (by have := SS.out.2; omega) SS.out.1.hB
        go_wp2_with fail
        refine Calls.mono QE.out ?_
        rintro e wE ⟨rfl, hbE⟩
        have hfin := bthen HBEL.out (SS.out.1.bel.trans hbE)
        go_wp2
        go_ret
        exact ⟨rfl, hfin⟩
end Go.Proofs.YtfoeepbndfnifaaDoor
