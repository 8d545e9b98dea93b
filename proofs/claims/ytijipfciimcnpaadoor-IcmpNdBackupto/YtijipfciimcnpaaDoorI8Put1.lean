/-
  PutND of the kind 1.
-/
import Derived.Test.YtijipfciimcnpaaDoorI8Put0
namespace Go.Proofs.YtijipfciimcnpaaDoor
open Go.RowKit
open I8 (M8)

set_option maxHeartbeats 6400000 in
set_option maxRecDepth 100000 in
theorem putND_1 (V : Int) (x : Nat → Nat) (r s o h : Bool) (m : Nat → Nat) (w : World) (hx : ∀ i, i < 16 → x i < 256) (hm : ∀ i, i < 6 → m i < 256) (hd : Dis8 w) (hs : Spe8 w) :
    Calls Tryd.prog 9 #[.agg (ndC 1 V x r s o h m)] w fun e w' => PutRes w 135 (rsB r s o) (pnE 1 V x r s o h m) (pnD 1 x h m) e w' ∧ Below w.heap.size w w' := by
  obtain ⟨N, hN⟩ : ∃ N, N = (ndC 1 V x r s o h m) := ⟨_, rfl⟩
  have hn := ndAt_new w N
  have hr := mAt_new (w.alloc (.cells N 28)) m8z none 0 0
  rw [World.size_alloc] at hr
  have bel : Below w.heap.size w ((w.alloc (.cells N 28)).alloc (.cells (mC m8z none 0 0) 31)) := ((Below.refl _ _).alloc (Nat.le_refl _) _).alloc (by simp) _
  have hn2 := hn.below ((Below.refl _ _).alloc (Nat.le_refl _) (.cells (mC m8z none 0 0) 31))
  obtain ⟨W, hW⟩ : ∃ W, W = (w.alloc (.cells N 28)).alloc (.cells #[.int .i64 0, .int .i64 0, .int .i64 0, .int .i64 0, .slice none 0 0] 31) := ⟨_, rfl⟩
  have hW2 : W = (w.alloc (.cells N 28)).alloc (.cells (mC m8z none 0 0) 31) := hW
  rw [← hW2] at hr bel hn2
  obtain ⟨B, hB⟩ : ∃ B, B = w.heap.size := ⟨_, rfl⟩
  rw [← hB] at hr hn2
  have HB : Hid (w.heap.size = B) := hB.symm
  have HW : Hid ((w.alloc (.cells N 28)).alloc (.cells #[.int .i64 0, .int .i64 0, .int .i64 0, .int .i64 0, .slice none 0 0] 31) = W) := hW.symm
  have HR : Hid (MAt W (B + 1) m8z none 0 0) := hr
  have HND : Hid (NdAt W B (ndC 1 V x r s o h m)) := by rw [← hN]; exact hn2
  have HS : Hid (Spe8 W) := hs.old bel
  have k0 : W.cell? ⟨B, 0, none⟩ = some (.int .i64 1) := HND.out.cell 0
  have QD : Hid _ := disFor_any 1 W (hd.old bel)
  have HX : Hid (∀ i, i < 16 → x i < 256) := hx
  have HMB : Hid (∀ i, i < 6 → m i < 256) := hm
  rw [← hN]
  clear hd hn hr hn2 hW hW2 hB hN hs hx hm
  go_enter Tryd.func9, Tryd.ntmps9
  go_upto_region 1 with fail
  rw [HB.out, HW.out]
  go_wp2_with fail
  refine Calls.mono QD.out ?_
  rintro e w1 ⟨rfl, hb1⟩
  have ed : diOf 1 = #[.int .i64 1, .int .i64 135, .int .i64 1] := rfl
  have ek : isK 1 = true := rfl
  rw [ed, ek]
  obtain ⟨w2, hw2⟩ : ∃ w2, w2 = w1.alloc (.cells #[.int .i64 1, .int .i64 135, .int .i64 1] 85) := ⟨_, rfl⟩
  obtain ⟨D, hD⟩ : ∃ D, D = w1.heap.size := ⟨_, rfl⟩
  have hb2 : Below w1.heap.size w1 w2 := by rw [hw2]; exact (Below.refl _ _).alloc (Nat.le_refl _) _
  have HDI2 : Hid (DiAt w2 D 1 135 1) := by rw [hw2, hD]; exact diAt_new w1 1 135 1
  have HR2 : Hid (MAt w2 (B + 1) m8z none 0 0) := (HR.out.below hb1).below hb2
  have HND2 : Hid (NdAt w2 B (ndC 1 V x r s o h m)) := (HND.out.below hb1).below hb2
  have HS2 : Hid (Spe8 w2) := (HS.out.old hb1).old hb2
  have bel2 := bthen (bthen bel hb1) hb2
  have HW2 : Hid (w1.alloc (.cells #[.int .i64 1, .int .i64 135, .int .i64 1] 85) = w2) := hw2.symm
  have HDS : Hid (w1.heap.size = D) := hD.symm
  have HDB : Hid (B + 1 < D) := by rw [hD]; exact (HR.out.below hb1).lt
  clear hb1 QD HR HND k0 hb2 ed ek hw2 hD HS bel
  go_upto_region 2 with fail
  rw [HDS.out, HW2.out]
  obtain ⟨r1, hr1⟩ : ∃ r1 : Int, r1 = if r then 2147483648 else 0 := ⟨_, rfl⟩
  obtain ⟨s1, hs1⟩ : ∃ s1 : Int, s1 = if s then 1073741824 else 0 := ⟨_, rfl⟩
  obtain ⟨o1, ho1⟩ : ∃ o1 : Int, o1 = if o then 536870912 else 0 := ⟨_, rfl⟩
  have HRS : Hid (bits .or .i64 (bits .or .i64 r1 s1) o1 = rsB r s o) := by unfold rsB; rw [hr1, hs1, ho1]; rfl
  have QB1 : Hid (∀ A, Calls Tryd.prog 37 #[.bool r, .int .i64 2147483648] A fun e w' => e = .returned (.int .i64 r1) ∧ A = w') := fun A => by rw [hr1]; exact ndBit_any r 2147483648 A
  have QB2 : Hid (∀ A, Calls Tryd.prog 37 #[.bool s, .int .i64 1073741824] A fun e w' => e = .returned (.int .i64 s1) ∧ A = w') := fun A => by rw [hs1]; exact ndBit_any s 1073741824 A
  have QB3 : Hid (∀ A, Calls Tryd.prog 37 #[.bool o, .int .i64 536870912] A fun e w' => e = .returned (.int .i64 o1) ∧ A = w') := fun A => by rw [ho1]; exact ndBit_any o 536870912 A
  clear hr1 hs1 ho1
  refine MixH.start (fun A => Below w2.heap.size w2 A) (by kernel_rfl) ?_
  obtain ⟨wA, hwA⟩ : ∃ wA, wA = w2.drew := ⟨_, rfl⟩
  have hS : Below w2.heap.size w2 wA := by rw [hwA]; exact (Below.refl _ _).drew
  rw [← hwA]
  clear hwA
  refine MixH.takes [true, false, false, true, false, false, false, true] 9 (by kernel_rfl) (by kernel_rfl) (by decide) (by kernel_rfl) hS (fun K hK => ?_)
  simp only [Mix.pick]
  repeat (go_big_quiet_step (fail))
  refine wpQuiet_nil (hK _ ?_)
  clear hK K
  refine MixH.take 8 1 _ (.bool r) rfl (by kernel_rfl) (by kernel_rfl) (by kernel_rfl) (by kernel_rfl) (yields_bool (.tmp 15) rfl ⟨B, 18, none⟩ _ rfl rfl (fun A hA => (HND2.out.below hA).cell 18)) hS (fun a' ha => ?_)
  simp only [Act.put, List.setIfInBounds_toArray, List.set_cons_succ, List.set_cons_zero] at ha
  subst ha
  refine MixH.take 7 4 _ (.bool s) rfl (by kernel_rfl) (by kernel_rfl) (by kernel_rfl) (by kernel_rfl) (yields_bool (.tmp 18) rfl ⟨B, 19, none⟩ _ rfl rfl (fun A hA => (HND2.out.below hA).cell 19)) hS (fun a' ha => ?_)
  simp only [Act.put, List.setIfInBounds_toArray, List.set_cons_succ, List.set_cons_zero] at ha
  subst ha
  refine MixH.take 6 8 _ (.bool o) rfl (by kernel_rfl) (by kernel_rfl) (by kernel_rfl) (by kernel_rfl) (yields_bool (.tmp 22) rfl ⟨B, 20, none⟩ _ rfl rfl (fun A hA => (HND2.out.below hA).cell 20)) hS (fun a' ha => ?_)
  simp only [Act.put, List.setIfInBounds_toArray, List.set_cons_succ, List.set_cons_zero] at ha
  subst ha
  refine MixH.one [false, false, true] 5 2 _ rfl rfl (by kernel_rfl) (by kernel_rfl) (fun K hK => ?_)
  simp only [Mix.pick]
  go_wp2_with fail
  refine Calls.mono (QB1.out wA) ?_
  rintro e w4 ⟨rfl, rfl⟩
  go_wp2
  refine ⟨rfl, hK _ _ hS ?_⟩
  clear hK K
  refine MixH.one [false, false, false, false, false, true] 4 5 _ rfl rfl (by kernel_rfl) (by kernel_rfl) (fun K hK => ?_)
  simp only [Mix.pick]
  go_wp2_with fail
  refine Calls.mono (QB2.out wA) ?_
  rintro e w4 ⟨rfl, rfl⟩
  go_wp2
  refine ⟨rfl, hK _ _ hS ?_⟩
  clear hK K
  refine MixH.takes [false, false, false, false, false, false, true] 3 (by kernel_rfl) (by kernel_rfl) (by decide) (by kernel_rfl) hS (fun K hK => ?_)
  simp only [Mix.pick]
  repeat (go_big_quiet_step (fail))
  refine wpQuiet_nil (hK _ ?_)
  clear hK K
  refine MixH.one [false, false, false, false, false, false, false, false, false, true] 2 9 _ rfl rfl (by kernel_rfl) (by kernel_rfl) (fun K hK => ?_)
  simp only [Mix.pick]
  go_wp2_with fail
  refine Calls.mono (QB3.out wA) ?_
  rintro e w4 ⟨rfl, rfl⟩
  go_wp2
  refine ⟨rfl, hK _ _ hS ?_⟩
  clear hK K
  refine MixH.takes [false, false, false, false, false, false, false, false, false, false, true] 1 (by kernel_rfl) (by kernel_rfl) (by decide) (by kernel_rfl) hS (fun K hK => ?_)
  simp only [Mix.pick]
  repeat (go_big_quiet_step (fail))
  refine wpQuiet_nil (hK _ ?_)
  clear hK K
  refine MixH.takes [false, false, false, false, false, false, false, false, false, false, false, true] 0 (by kernel_rfl) (by kernel_rfl) (by decide) (by kernel_rfl) hS (fun K hK => ?_)
  simp only [Mix.pick]
  repeat (go_big_quiet_step (fail))
  refine wpQuiet_nil (hK _ ?_)
  clear hK K
  refine MixH.done (by kernel_rfl) ?_
  rw [HRS.out]
  have HR3 : Hid (MAt wA (B + 1) m8z none 0 0) := HR2.out.below hS
  have HN3 : Hid (NdAt wA B (ndC 1 V x r s o h m)) := HND2.out.below hS
  have HDI3 : Hid (DiAt wA D 1 135 1) := HDI2.out.below hS
  have HS3 : Hid (Spe8 wA) := HS2.out.old hS
  have bel3 := bthen bel2 hS
  have c0 : wA.cell? ⟨B, 0, none⟩ = some (.int .i64 1) := HN3.out.cell 0
  have c21 : wA.cell? ⟨B, 21, none⟩ = some (.bool h) := HN3.out.cell 21
  have HMAC : Hid (wA.rangeAt B 22 (macC m).toList) := HN3.out.rmc
  obtain ⟨rs, hrs⟩ : ∃ rs, rs = rsB r s o := ⟨_, rfl⟩
  rw [← hrs]
  have HRSE : Hid (rs = rsB r s o) := hrs
  clear hS HR2 HND2 HDI2 HS2 bel2 QB1 QB2 QB3 HRS hrs
  have hv : rs = 0 ∨ rs = 536870912 ∨ rs = 1073741824 ∨ rs = 1610612736 ∨ rs = 2147483648 ∨ rs = 2684354560 ∨ rs = 3221225472 ∨ rs = 3758096384 := by rw [HRSE.out]; exact rsB_vals r s o
  rcases hv with hv | hv | hv | hv | hv | hv | hv | hv
  · subst hv
    cases h
    · cases hsm : same6 m (fun _ => 0)
      · have HE : Hid (pnE 1 V x r s o false m = 1) := by unfold pnE; rw [if_pos (.inr ⟨rfl, hsm⟩)]; rfl
        go_wp2_with (first | (refine wpList_load_mac (.tmp 42) rfl B 22 m rfl HMAC.out rfl ?_) | (refine wpList_neq_mac (.tmp 43) (.tmp 44) rfl m (fun _ => 0) rfl rfl rfl ?_) | (refine wpList_build0 rfl rfl ?_) | (refine wpList_store_m8 (.tmp 2) (.tmp 48) rfl rfl (B + 1) m8z m8z none none 0 0 0 0 rfl rfl HR3.out rfl ?_))
        intro wE hRE kE
        have HRE : Hid (MAt wE (B + 1) m8z none 0 0) := hRE
        have HFE : Hid (Below w.heap.size w wE) := bel3.trans (kE.below (fun q e => by have e' : q = B + 1 := e; have := HB.out; omega) bel3.size)
        clear hRE kE
        go_wp2
        (try simp only [Exit.inBlock, Exit.then])
        refine bodyPost_ret (results_m8_tmp rfl _ _ (B + 1) m8z none 0 0 rfl HRE.out) rfl ?_
        exact ⟨.inl ⟨by rw [HE.out]; decide, by rw [HE.out]; rfl⟩, HFE.out⟩
      · have HNA : Hid (pnE 1 V x r s o false m = if tmB V x then 0 else 86) := by
          unfold pnE; rw [if_neg (fun e => e.elim (fun e => absurd e.2 (fun f => f HRSE.out.symm)) (fun e => by rw [hsm] at e; exact absurd e.2 (by decide)))]; rfl
        have QT : Hid _ := target_any V x wA HX.out HS3.out
        have HIP : Hid (wA.rangeAt B 1 (ipCells V x).toList) := HN3.out.rip
        go_wp2_with (first | (refine wpList_load_mac (.tmp 42) rfl B 22 m rfl HMAC.out rfl ?_) | (refine wpList_neq_mac (.tmp 43) (.tmp 44) rfl m (fun _ => 0) rfl rfl rfl ?_) | (refine wpList_load_ipm (.tmp 49) rfl B 1 V x rfl HIP.out rfl ?_))
        refine Calls.mono QT.out ?_
        rintro e w5 ⟨rfl, hb5⟩
        have HR5 : Hid (MAt w5 (B + 1) m8z none 0 0) := HR3.out.below hb5
        have HN5 : Hid (NdAt w5 B (ndC 1 V x r s o false m)) := HN3.out.below hb5
        have HDI5 : Hid (DiAt w5 D 1 135 1) := HDI3.out.below hb5
        have bel5 := bthen bel3 hb5
        clear hb5 QT HIP HR3 HN3 HDI3 HS3 bel3 c0 c21 HMAC
        cases htm : tmB V x
        · have HE : Hid (pnE 1 V x r s o false m = 86) := by rw [HNA.out, htm]; rfl
          clear htm
          go_wp2_with (first | (refine wpList_build0 rfl rfl ?_) | (refine wpList_store_m8 (.tmp 2) (.tmp 53) rfl rfl (B + 1) m8z m8z none none 0 0 0 0 rfl rfl HR5.out rfl ?_))
          intro wE hRE kE
          have HRE : Hid (MAt wE (B + 1) m8z none 0 0) := hRE
          have HFE : Hid (Below w.heap.size w wE) := bel5.trans (kE.below (fun q e => by have e' : q = B + 1 := e; have := HB.out; omega) bel5.size)
          clear hRE kE
          go_wp2
          (try simp only [Exit.inBlock, Exit.then])
          refine bodyPost_ret (results_m8_tmp rfl _ _ (B + 1) m8z none 0 0 rfl HRE.out) rfl ?_
          exact ⟨.inl ⟨by rw [HE.out]; decide, by rw [HE.out]; rfl⟩, HFE.out⟩
        · have HE : Hid (pnE 1 V x r s o false m = 0) := by rw [HNA.out, htm]; rfl
          clear htm
          have QN : Hid _ := newB_ok 24 w5 (by omega)
          obtain ⟨U, hU⟩ : ∃ U, U = w5.heap.size := ⟨_, rfl⟩
          have HU : Hid (w5.heap.size = U) := hU.symm
          go_wp2_with fail
          refine Calls.mono QN.out ?_
          rintro e w6 ⟨rfl, hbld, hw6⟩
          have hb6 : Below w5.heap.size w5 w6 := by rw [hw6]; exact (Below.refl _ _).alloc (Nat.le_refl _) _
          rw [HU.out] at hbld ⊢
          have HBLD : Hid (Bld w6 U (.slice none 0 0) 24 []) := hbld
          have HLT : Hid (B < U ∧ B + 1 < U ∧ D < U ∧ w.heap.size ≤ U) := by rw [hU]; exact ⟨HN5.out.lt, HR5.out.lt, HDI5.out.lt, bel5.size⟩
          have HR6 : Hid (MAt w6 (B + 1) m8z none 0 0) := HR5.out.below hb6
          have HN6 : Hid (NdAt w6 B (ndC 1 V x r s o false m)) := HN5.out.below hb6
          have HDI6 : Hid (DiAt w6 D 1 135 1) := HDI5.out.below hb6
          have bel6 := bthen bel5 hb6
          clear hw6 hb6 hU hbld QN HR5 HN5 HDI5 bel5
          go_wp2_with fail
          obtain ⟨w7, hw7⟩ : ∃ w7, w7 = w6.alloc (.cells #[.slice (some ⟨B, 2, none⟩) 16 16] 29) := ⟨_, rfl⟩
          have hb7 : Below w6.heap.size w6 w7 := by rw [hw7]; exact (Below.refl _ _).alloc (Nat.le_refl _) _
          have hp7 : w7.cell? ⟨w6.heap.size, 0, none⟩ = some (.slice (some ⟨B, 2, none⟩) 16 16) := by rw [hw7]; simp [go_sem]
          rw [← hw7]
          have hnS : ∀ z, BS U (.slice none 0 0) z → z = U := by
            intro z hz
            rcases hz with e | e
            · exact e
            · simp [Value.ownBlock] at e
          have QB : Hid _ := bytesB_ok U (.slice none 0 0) 24 [] (some ⟨w6.heap.size, 0, none⟩) 1 [⟨some ⟨B, 2, none⟩, 16, ipL x 16⟩] w7 (HBLD.out.below hb7) (parts_one w7 _ w6.heap.size ⟨some ⟨B, 2, none⟩, 16, ipL x 16⟩ hp7 (HN6.out.sip.old hb7) (fun e => by have := hnS _ e; have := HBLD.out.lt; omega) (fun z _ hz e => by have e1 := Option.some.inj hz; subst e1; have e2 : B = U := hnS _ e; have := HLT.out; omega)) (by simp [flat, ipL_len]) (by omega) (by simp)
          have HNS : Hid (∀ z, BS U (.slice none 0 0) z → z = U) := hnS
          have HR7 : Hid (MAt w7 (B + 1) m8z none 0 0) := HR6.out.below hb7
          have HN7 : Hid (NdAt w7 B (ndC 1 V x r s o false m)) := HN6.out.below hb7
          have HDI7 : Hid (DiAt w7 D 1 135 1) := HDI6.out.below hb7
          have bel7 := bthen bel6 hb7
          have HU7 : Hid (U < w7.heap.size) := (HBLD.out.below hb7).lt
          clear hw7 hb7 hp7 hnS HR6 HN6 HDI6 bel6 HBLD
          refine Calls.mono QB.out ?_
          rintro e w8 ⟨rfl, v8, hb8, hq8, hc8⟩
          have k8 : Ch (fun z => z = U) w7 w8 := hc8.mono (fun z _ hz => HNS.out z hz)
          have e8 : [] ++ flat [⟨some ⟨B, 2, none⟩, 16, ipL x 16⟩] = ipL x 16 := by simp [flat]
          rw [e8] at hb8
          have HBLD8 : Hid (Bld w8 U v8 24 (ipL x 16)) := hb8
          have b8 := ch_below k8 HU7.out
          have hne8 : ∀ q, q < U → ¬ (fun z => z = U) q := fun q h e => by have e' : q = U := e; omega
          have HR8 : Hid (MAt w8 (B + 1) m8z none 0 0) := HR7.out.ch k8 (hne8 _ HLT.out.2.1)
          have HN8 : Hid (NdAt w8 B (ndC 1 V x r s o false m)) := HN7.out.ch k8 (hne8 _ HLT.out.1)
          have HDI8 : Hid (DiAt w8 D 1 135 1) := HDI7.out.ch k8 (hne8 _ HLT.out.2.2.1)
          have bel8 : Below w.heap.size w w8 := bel7.trans (b8.mono HLT.out.2.2.2)
          have HQ8 : Hid (∀ q, v8.ownBlock = some q → U < q) := by
            intro q hq
            rcases hq8 q hq with h1 | h1
            · simp [Value.ownBlock] at h1
            · have := HU7.out; omega
          have c21 : w8.cell? ⟨B, 21, none⟩ = some (.bool false) := HN8.out.cell 21
          clear QB hb8 hq8 hc8 k8 e8 b8 hne8 HR7 HN7 HDI7 bel7
          go_upto_region 13 with fail
          refine MixH.start (fun A => DiAt A D 1 135 1) (by kernel_rfl) ?_
          obtain ⟨wA2, hwA2⟩ : ∃ wA2, wA2 = w8.drew := ⟨_, rfl⟩
          have hbA : Below w8.heap.size w8 wA2 := by rw [hwA2]; exact (Below.refl _ _).drew
          have hSd : DiAt wA2 D 1 135 1 := HDI8.out.below hbA
          have HBA : Hid (Bld wA2 U v8 24 (ipL x 16)) := HBLD8.out.below hbA
          have HRA : Hid (MAt wA2 (B + 1) m8z none 0 0) := HR8.out.below hbA
          have belA := bthen bel8 hbA
          rw [← hwA2]
          clear hwA2 hbA HBLD8 HR8 HDI8 bel8 c21
          refine MixH.takes [true] 7 (by kernel_rfl) (by kernel_rfl) (by decide) (by kernel_rfl) hSd (fun K hK => ?_)
          simp only [Mix.pick]
          repeat (go_big_quiet_step (fail))
          refine wpQuiet_nil (hK _ ?_)
          clear hK K
          refine MixH.take 6 1 _ (.int .i64 135) rfl (by kernel_rfl) (by kernel_rfl) (by kernel_rfl) (by kernel_rfl) (yields_int (.tmp 79) rfl ⟨D, 1, none⟩ _ rfl rfl (fun A hA => hA.c1)) hSd (fun a' ha => ?_)
          simp only [Act.put, List.setIfInBounds_toArray, List.set_cons_succ, List.set_cons_zero] at ha
          subst ha
          refine MixH.takes [false, false, true, true] 4 (by kernel_rfl) (by kernel_rfl) (by decide) (by kernel_rfl) hSd (fun K hK => ?_)
          simp only [Mix.pick]
          repeat (go_big_quiet_step (fail))
          refine wpQuiet_nil (hK _ ?_)
          clear hK K
          refine MixH.one [false, false, false, false, true] 3 4 _ rfl rfl (by kernel_rfl) (by kernel_rfl) (fun K hK => ?_)
          simp only [Mix.pick]
          go_wp2_with fail
          refine Calls.mono (doneB_any U v8 24 (ipL x 16) wA2 HBA.out (by rw [ipL_len]; omega)) ?_
          rintro e w9 ⟨g, rfl, how, hb9⟩
          have hS9 : DiAt w9 D 1 135 1 := DiAt.below hSd hb9
          have HR9 : Hid (MAt w9 (B + 1) m8z none 0 0) := HRA.out.below hb9
          have bel9 := bthen belA hb9
          have HOW : Hid (w9.ownsRow wA2.heap.size 5 1 (.slice (some ⟨g, 0, none⟩) (ipL x 16).length (ipL x 16).length) (ipL x 16).length ((toI (ipL x 16)).map (Value.int .u8))) := how
          have HBW9 : Hid (w.heap.size ≤ wA2.heap.size ∧ B + 1 < wA2.heap.size) := ⟨belA.size, HRA.out.lt⟩
          clear hSd HBA HRA how hb9 belA
          go_wp2
          refine ⟨rfl, hK _ _ hS9 ?_⟩
          clear hK K
          refine MixH.takes [false, false, false, false, false, true] 2 (by kernel_rfl) (by kernel_rfl) (by decide) (by kernel_rfl) hS9 (fun K hK => ?_)
          simp only [Mix.pick]
          repeat (go_big_quiet_step (fail))
          refine wpQuiet_nil (hK _ ?_)
          clear hK K
          refine MixH.one [false, false, false, false, false, false, true] 1 6 _ rfl rfl (by kernel_rfl) (by kernel_rfl) (fun K hK => ?_)
          simp only [Mix.pick]
          go_wp2_with (first | (refine wpList_store_m8 (.tmp 2) (.tmp 84) rfl rfl (B + 1) m8z ⟨6, 135, 0, 0, ipL x 16⟩ none (some ⟨g, 0, none⟩) 0 0 (ipL x 16).length (ipL x 16).length rfl rfl HR9.out rfl ?_))
          intro wE hRE kE
          have hSE : DiAt wE D 1 135 1 := DiAt.ch hS9 kE (fun e => by have e' : D = B + 1 := e; have := HDB.out; omega)
          have HRE : Hid (MAt wE (B + 1) ⟨6, 135, 0, 0, ipL x 16⟩ (some ⟨g, 0, none⟩) (ipL x 16).length (ipL x 16).length) := hRE
          have HFE : Hid (Below w.heap.size w wE) := bel9.trans (kE.below (fun q e => by have e' : q = B + 1 := e; have := HB.out; omega) bel9.size)
          have hoE := kE.owns HOW.out (fun q hq e => by have h1 := own_ge HOW.out q hq; have e' : q = B + 1 := e; have := HBW9.out.2; omega)
          have HOE : Hid _ := owns_le hoE HBW9.out.1
          clear hRE kE hoE HOW HR9 bel9 hS9
          go_wp2
          refine ⟨rfl, hK _ _ hSE ?_⟩
          clear hK K
          refine MixH.takes [false, false, false, false, false, false, false, true] 0 (by kernel_rfl) (by kernel_rfl) (by decide) (by kernel_rfl) hSE (fun K hK => ?_)
          simp only [Mix.pick]
          repeat (go_big_quiet_step (fail))
          refine wpQuiet_nil (hK _ ?_)
          clear hK K
          refine MixH.done (by kernel_rfl) ?_
          go_wp2
          (try simp only [Exit.inBlock, Exit.then])
          refine bodyPost_ret (results_m8_tmp rfl _ _ (B + 1) ⟨6, 135, 0, 0, ipL x 16⟩ (some ⟨g, 0, none⟩) (ipL x 16).length (ipL x 16).length rfl HRE.out) rfl ?_
          have epd : pnD 1 x false m = ipL x 16 := by simp [pnD]
          exact ⟨.inr ⟨HE.out, g, by rw [epd, ← HRSE.out]; rfl, by rw [epd]; exact HOE.out⟩, HFE.out⟩
    · have HNA : Hid (pnE 1 V x r s o true m = if tmB V x then 0 else 86) := by
        unfold pnE; rw [if_neg (fun e => e.elim (fun e => absurd e.2 (fun f => f HRSE.out.symm)) (fun e => absurd e.1 (by decide)))]; rfl
      have QT : Hid _ := target_any V x wA HX.out HS3.out
      have HIP : Hid (wA.rangeAt B 1 (ipCells V x).toList) := HN3.out.rip
      go_wp2_with (first | (refine wpList_load_mac (.tmp 42) rfl B 22 m rfl HMAC.out rfl ?_) | (refine wpList_neq_mac (.tmp 43) (.tmp 44) rfl m (fun _ => 0) rfl rfl rfl ?_) | (refine wpList_load_ipm (.tmp 49) rfl B 1 V x rfl HIP.out rfl ?_))
      refine Calls.mono QT.out ?_
      rintro e w5 ⟨rfl, hb5⟩
      have HR5 : Hid (MAt w5 (B + 1) m8z none 0 0) := HR3.out.below hb5
      have HN5 : Hid (NdAt w5 B (ndC 1 V x r s o true m)) := HN3.out.below hb5
      have HDI5 : Hid (DiAt w5 D 1 135 1) := HDI3.out.below hb5
      have bel5 := bthen bel3 hb5
      clear hb5 QT HIP HR3 HN3 HDI3 HS3 bel3 c0 c21 HMAC
      cases htm : tmB V x
      · have HE : Hid (pnE 1 V x r s o true m = 86) := by rw [HNA.out, htm]; rfl
        clear htm
        go_wp2_with (first | (refine wpList_build0 rfl rfl ?_) | (refine wpList_store_m8 (.tmp 2) (.tmp 53) rfl rfl (B + 1) m8z m8z none none 0 0 0 0 rfl rfl HR5.out rfl ?_))
        intro wE hRE kE
        have HRE : Hid (MAt wE (B + 1) m8z none 0 0) := hRE
        have HFE : Hid (Below w.heap.size w wE) := bel5.trans (kE.below (fun q e => by have e' : q = B + 1 := e; have := HB.out; omega) bel5.size)
        clear hRE kE
        go_wp2
        (try simp only [Exit.inBlock, Exit.then])
        refine bodyPost_ret (results_m8_tmp rfl _ _ (B + 1) m8z none 0 0 rfl HRE.out) rfl ?_
        exact ⟨.inl ⟨by rw [HE.out]; decide, by rw [HE.out]; rfl⟩, HFE.out⟩
      · have HE : Hid (pnE 1 V x r s o true m = 0) := by rw [HNA.out, htm]; rfl
        clear htm
        have QN : Hid _ := newB_ok 24 w5 (by omega)
        obtain ⟨U, hU⟩ : ∃ U, U = w5.heap.size := ⟨_, rfl⟩
        have HU : Hid (w5.heap.size = U) := hU.symm
        go_wp2_with fail
        refine Calls.mono QN.out ?_
        rintro e w6 ⟨rfl, hbld, hw6⟩
        have hb6 : Below w5.heap.size w5 w6 := by rw [hw6]; exact (Below.refl _ _).alloc (Nat.le_refl _) _
        rw [HU.out] at hbld ⊢
        have HBLD : Hid (Bld w6 U (.slice none 0 0) 24 []) := hbld
        have HLT : Hid (B < U ∧ B + 1 < U ∧ D < U ∧ w.heap.size ≤ U) := by rw [hU]; exact ⟨HN5.out.lt, HR5.out.lt, HDI5.out.lt, bel5.size⟩
        have HR6 : Hid (MAt w6 (B + 1) m8z none 0 0) := HR5.out.below hb6
        have HN6 : Hid (NdAt w6 B (ndC 1 V x r s o true m)) := HN5.out.below hb6
        have HDI6 : Hid (DiAt w6 D 1 135 1) := HDI5.out.below hb6
        have bel6 := bthen bel5 hb6
        clear hw6 hb6 hU hbld QN HR5 HN5 HDI5 bel5
        go_wp2_with fail
        obtain ⟨w7, hw7⟩ : ∃ w7, w7 = w6.alloc (.cells #[.slice (some ⟨B, 2, none⟩) 16 16] 29) := ⟨_, rfl⟩
        have hb7 : Below w6.heap.size w6 w7 := by rw [hw7]; exact (Below.refl _ _).alloc (Nat.le_refl _) _
        have hp7 : w7.cell? ⟨w6.heap.size, 0, none⟩ = some (.slice (some ⟨B, 2, none⟩) 16 16) := by rw [hw7]; simp [go_sem]
        rw [← hw7]
        have hnS : ∀ z, BS U (.slice none 0 0) z → z = U := by
          intro z hz
          rcases hz with e | e
          · exact e
          · simp [Value.ownBlock] at e
        have QB : Hid _ := bytesB_ok U (.slice none 0 0) 24 [] (some ⟨w6.heap.size, 0, none⟩) 1 [⟨some ⟨B, 2, none⟩, 16, ipL x 16⟩] w7 (HBLD.out.below hb7) (parts_one w7 _ w6.heap.size ⟨some ⟨B, 2, none⟩, 16, ipL x 16⟩ hp7 (HN6.out.sip.old hb7) (fun e => by have := hnS _ e; have := HBLD.out.lt; omega) (fun z _ hz e => by have e1 := Option.some.inj hz; subst e1; have e2 : B = U := hnS _ e; have := HLT.out; omega)) (by simp [flat, ipL_len]) (by omega) (by simp)
        have HNS : Hid (∀ z, BS U (.slice none 0 0) z → z = U) := hnS
        have HR7 : Hid (MAt w7 (B + 1) m8z none 0 0) := HR6.out.below hb7
        have HN7 : Hid (NdAt w7 B (ndC 1 V x r s o true m)) := HN6.out.below hb7
        have HDI7 : Hid (DiAt w7 D 1 135 1) := HDI6.out.below hb7
        have bel7 := bthen bel6 hb7
        have HU7 : Hid (U < w7.heap.size) := (HBLD.out.below hb7).lt
        clear hw7 hb7 hp7 hnS HR6 HN6 HDI6 bel6 HBLD
        refine Calls.mono QB.out ?_
        rintro e w8 ⟨rfl, v8, hb8, hq8, hc8⟩
        have k8 : Ch (fun z => z = U) w7 w8 := hc8.mono (fun z _ hz => HNS.out z hz)
        have e8 : [] ++ flat [⟨some ⟨B, 2, none⟩, 16, ipL x 16⟩] = ipL x 16 := by simp [flat]
        rw [e8] at hb8
        have HBLD8 : Hid (Bld w8 U v8 24 (ipL x 16)) := hb8
        have b8 := ch_below k8 HU7.out
        have hne8 : ∀ q, q < U → ¬ (fun z => z = U) q := fun q h e => by have e' : q = U := e; omega
        have HR8 : Hid (MAt w8 (B + 1) m8z none 0 0) := HR7.out.ch k8 (hne8 _ HLT.out.2.1)
        have HN8 : Hid (NdAt w8 B (ndC 1 V x r s o true m)) := HN7.out.ch k8 (hne8 _ HLT.out.1)
        have HDI8 : Hid (DiAt w8 D 1 135 1) := HDI7.out.ch k8 (hne8 _ HLT.out.2.2.1)
        have bel8 : Below w.heap.size w w8 := bel7.trans (b8.mono HLT.out.2.2.2)
        have HQ8 : Hid (∀ q, v8.ownBlock = some q → U < q) := by
          intro q hq
          rcases hq8 q hq with h1 | h1
          · simp [Value.ownBlock] at h1
          · have := HU7.out; omega
        have c21 : w8.cell? ⟨B, 21, none⟩ = some (.bool true) := HN8.out.cell 21
        clear QB hb8 hq8 hc8 k8 e8 b8 hne8 HR7 HN7 HDI7 bel7
        go_upto_region 12 with fail
        refine MixH.start (fun A => DiAt A D 1 135 1) (by kernel_rfl) ?_
        obtain ⟨wA1, hwA1⟩ : ∃ wA1, wA1 = w8.drew := ⟨_, rfl⟩
        have hbA : Below w8.heap.size w8 wA1 := by rw [hwA1]; exact (Below.refl _ _).drew
        have hSd : DiAt wA1 D 1 135 1 := HDI8.out.below hbA
        have HBA : Hid (Bld wA1 U v8 24 (ipL x 16)) := HBLD8.out.below hbA
        have HRA : Hid (MAt wA1 (B + 1) m8z none 0 0) := HR8.out.below hbA
        have HNA1 : Hid (NdAt wA1 B (ndC 1 V x r s o true m)) := HN8.out.below hbA
        have belA := bthen bel8 hbA
        rw [← hwA1]
        clear hwA1 hbA HBLD8 HR8 HDI8 bel8 HN8 c21
        refine MixH.takes [true, true] 7 (by kernel_rfl) (by kernel_rfl) (by decide) (by kernel_rfl) hSd (fun K hK => ?_)
        simp only [Mix.pick]
        repeat (go_big_quiet_step (fail))
        refine wpQuiet_nil (hK _ ?_)
        clear hK K
        refine MixH.take 6 2 _ (.int .i64 1) rfl (by kernel_rfl) (by kernel_rfl) (by kernel_rfl) (by kernel_rfl) (yields_int (.tmp 71) rfl ⟨D, 2, none⟩ _ rfl rfl (fun A hA => hA.c2)) hSd (fun a' ha => ?_)
        simp only [Act.put, List.setIfInBounds_toArray, List.set_cons_succ, List.set_cons_zero] at ha
        subst ha
        refine MixH.takes [false, false, false, true] 5 (by kernel_rfl) (by kernel_rfl) (by decide) (by kernel_rfl) hSd (fun K hK => ?_)
        simp only [Mix.pick]
        repeat (go_big_quiet_step (fail))
        refine wpQuiet_nil (hK _ ?_)
        clear hK K
        refine MixH.takes [false, false, false, false, false, true, true] 3 (by kernel_rfl) (by kernel_rfl) (by decide) (by kernel_rfl) hSd (fun K hK => ?_)
        simp only [Mix.pick]
        repeat (go_big_quiet_step (fail))
        refine wpQuiet_nil (hK _ ?_)
        clear hK K
        refine MixH.one [false, false, false, false, true] 2 4 _ rfl rfl (by kernel_rfl) (by kernel_rfl) (fun K hK => ?_)
        simp only [Mix.pick]
        go_wp2
        obtain ⟨wB, hwB⟩ : ∃ wB, wB = wA1.alloc (.cells #[.int .u8 1, .int .u8 1] 5) := ⟨_, rfl⟩
        obtain ⟨P1, hP1⟩ : ∃ P1, P1 = wA1.heap.size := ⟨_, rfl⟩
        have hbB : Below wA1.heap.size wA1 wB := by rw [hwB]; exact (Below.refl _ _).alloc (Nat.le_refl _) _
        have hg1 : Seg .u8 wB (some ⟨P1, 0, none⟩) (toI [1, 1]) := by
          refine .inr ⟨P1, 0, rfl, fun i hi => ?_⟩
          rw [hwB, hP1]
          match i, hi with
          | 0, _ => simp [go_sem, toI]
          | 1, _ => simp [go_sem, toI]
        have HG1 : Hid (Seg .u8 wB (some ⟨P1, 0, none⟩) (toI [1, 1])) := hg1
        have HNP1 : Hid (¬ BS U v8 P1) := bs_out HBA.out P1 (by rw [hP1]; exact Nat.le_refl _)
        have HNB0 : Hid (∀ q, q < U → ¬ BS U v8 q) := by
          intro q hq e
          rcases e with e | e
          · omega
          · have := HQ8.out q e; omega
        have HBB : Hid (Bld wB U v8 24 (ipL x 16)) := HBA.out.below hbB
        have HRB : Hid (MAt wB (B + 1) m8z none 0 0) := HRA.out.below hbB
        have HNB : Hid (NdAt wB B (ndC 1 V x r s o true m)) := HNA1.out.below hbB
        have hSB : DiAt wB D 1 135 1 := DiAt.below hSd hbB
        have belB := bthen belA hbB
        rw [← hwB, ← hP1]
        clear hwB hP1 hbB hg1 HBA HRA HNA1 hSd belA
        refine ⟨rfl, hK _ _ hSB ?_⟩
        clear hK K
        refine MixH.one [false, false, false, false, false, false, false, true] 1 7 _ rfl rfl (by kernel_rfl) (by kernel_rfl) (fun K hK => ?_)
        simp only [Mix.pick]
        go_wp2
        obtain ⟨wC, hwC⟩ : ∃ wC, wC = wB.alloc (.cells #[.slice (some ⟨P1, 0, none⟩) 2 2, .slice (some ⟨B, 22, none⟩) 6 6] 29) := ⟨_, rfl⟩
        obtain ⟨P2, hP2⟩ : ∃ P2, P2 = wB.heap.size := ⟨_, rfl⟩
        have hbC : Below wB.heap.size wB wC := by rw [hwC]; exact (Below.refl _ _).alloc (Nat.le_refl _) _
        have q0 : wC.cell? ⟨P2, 0, none⟩ = some (.slice (some ⟨P1, 0, none⟩) 2 2) := by rw [hwC, hP2]; simp [go_sem]
        have q1 : wC.cell? ⟨P2, 1, none⟩ = some (.slice (some ⟨B, 22, none⟩) 6 6) := by rw [hwC, hP2]; simp [go_sem]
        have HNP2 : ¬ BS U v8 P2 := bs_out HBB.out P2 (by rw [hP2]; exact Nat.le_refl _)
        have QB2 : Hid _ := bytesB_ok U v8 24 (ipL x 16) (some ⟨P2, 0, none⟩) 2 [⟨some ⟨P1, 0, none⟩, 2, [1, 1]⟩, ⟨some ⟨B, 22, none⟩, 6, mcL m⟩] wC (HBB.out.below hbC) (parts_two wC _ P2 ⟨some ⟨P1, 0, none⟩, 2, [1, 1]⟩ ⟨some ⟨B, 22, none⟩, 6, mcL m⟩ q0 q1 (HG1.out.old hbC) (HNB.out.smc.old hbC) HNP2 (fun z _ hz e => by have e1 := Option.some.inj hz; subst e1; exact HNP1.out e) (fun z _ hz e => by have e1 := Option.some.inj hz; subst e1; exact HNB0.out B HLT.out.1 e)) (by simp [flat, ipL_len, mcL]) (by omega) (by simp)
        have HRC : Hid (MAt wC (B + 1) m8z none 0 0) := HRB.out.below hbC
        have hSC : DiAt wC D 1 135 1 := DiAt.below hSB hbC
        have belC := bthen belB hbC
        have HBLC : Hid (Bld wC U v8 24 (ipL x 16)) := HBB.out.below hbC
        rw [← hwC, ← hP2]
        clear hwC hP2 hbC q0 q1 HNP2 HBB HRB HNB hSB belB HG1
        refine ⟨rfl, hK _ _ hSC ?_⟩
        clear hK K
        refine MixH.one [false, false, false, false, false, false, false, false, true] 0 8 _ rfl rfl (by kernel_rfl) (by kernel_rfl) (fun K hK => ?_)
        simp only [Mix.pick]
        go_wp2_with fail
        refine Calls.mono QB2.out ?_
        rintro e wF ⟨rfl, vF, hbF, hqF, hcF⟩
        have eF : ipL x 16 ++ flat [⟨some ⟨P1, 0, none⟩, 2, [1, 1]⟩, ⟨some ⟨B, 22, none⟩, 6, mcL m⟩] = ipL x 16 ++ ([1, 1] ++ mcL m) := by simp [flat]
        rw [eF] at hbF
        have HBLF : Hid (Bld wF U vF 24 (ipL x 16 ++ ([1, 1] ++ mcL m))) := hbF
        have hSF : DiAt wF D 1 135 1 := DiAt.ch hSC hcF (HNB0.out D HLT.out.2.2.1)
        have HDIF : Hid (DiAt wF D 1 135 1) := hSF
        have HRF : Hid (MAt wF (B + 1) m8z none 0 0) := HRC.out.ch hcF (HNB0.out _ HLT.out.2.1)
        have belF : Below w.heap.size w wF := belC.trans (hcF.below (fun q e => by
          rcases e with e | e
          · rw [e]; exact HLT.out.2.2.2
          · have := HQ8.out q e; have := HLT.out.2.2.2; omega) belC.size)
        have c21 : True := trivial
        clear hbF hqF hcF eF QB2 HRC hSC belC HBLC
        go_wp2
        refine ⟨rfl, hK _ _ hSF ?_⟩
        clear hK K
        refine MixH.done (by kernel_rfl) ?_
        clear hSF
        go_upto_region 13 with fail
        refine MixH.start (fun A => DiAt A D 1 135 1) (by kernel_rfl) ?_
        obtain ⟨wA2, hwA2⟩ : ∃ wA2, wA2 = wF.drew := ⟨_, rfl⟩
        have hbA : Below wF.heap.size wF wA2 := by rw [hwA2]; exact (Below.refl _ _).drew
        have hSd : DiAt wA2 D 1 135 1 := HDIF.out.below hbA
        have HBA : Hid (Bld wA2 U vF 24 (ipL x 16 ++ ([1, 1] ++ mcL m))) := HBLF.out.below hbA
        have HRA : Hid (MAt wA2 (B + 1) m8z none 0 0) := HRF.out.below hbA
        have belA := bthen belF hbA
        rw [← hwA2]
        clear hwA2 hbA HBLF HRF HDIF belF c21
        refine MixH.takes [true] 7 (by kernel_rfl) (by kernel_rfl) (by decide) (by kernel_rfl) hSd (fun K hK => ?_)
        simp only [Mix.pick]
        repeat (go_big_quiet_step (fail))
        refine wpQuiet_nil (hK _ ?_)
        clear hK K
        refine MixH.take 6 1 _ (.int .i64 135) rfl (by kernel_rfl) (by kernel_rfl) (by kernel_rfl) (by kernel_rfl) (yields_int (.tmp 79) rfl ⟨D, 1, none⟩ _ rfl rfl (fun A hA => hA.c1)) hSd (fun a' ha => ?_)
        simp only [Act.put, List.setIfInBounds_toArray, List.set_cons_succ, List.set_cons_zero] at ha
        subst ha
        refine MixH.takes [false, false, true, true] 4 (by kernel_rfl) (by kernel_rfl) (by decide) (by kernel_rfl) hSd (fun K hK => ?_)
        simp only [Mix.pick]
        repeat (go_big_quiet_step (fail))
        refine wpQuiet_nil (hK _ ?_)
        clear hK K
        refine MixH.one [false, false, false, false, true] 3 4 _ rfl rfl (by kernel_rfl) (by kernel_rfl) (fun K hK => ?_)
        simp only [Mix.pick]
        go_wp2_with fail
        refine Calls.mono (doneB_any U vF 24 (ipL x 16 ++ ([1, 1] ++ mcL m)) wA2 HBA.out (by simp [ipL_len, mcL])) ?_
        rintro e w9 ⟨g, rfl, how, hb9⟩
        have hS9 : DiAt w9 D 1 135 1 := DiAt.below hSd hb9
        have HR9 : Hid (MAt w9 (B + 1) m8z none 0 0) := HRA.out.below hb9
        have bel9 := bthen belA hb9
        have HOW : Hid (w9.ownsRow wA2.heap.size 5 1 (.slice (some ⟨g, 0, none⟩) (ipL x 16 ++ ([1, 1] ++ mcL m)).length (ipL x 16 ++ ([1, 1] ++ mcL m)).length) (ipL x 16 ++ ([1, 1] ++ mcL m)).length ((toI (ipL x 16 ++ ([1, 1] ++ mcL m))).map (Value.int .u8))) := how
        have HBW9 : Hid (w.heap.size ≤ wA2.heap.size ∧ B + 1 < wA2.heap.size) := ⟨belA.size, HRA.out.lt⟩
        clear hSd HBA HRA how hb9 belA
        go_wp2
        refine ⟨rfl, hK _ _ hS9 ?_⟩
        clear hK K
        refine MixH.takes [false, false, false, false, false, true] 2 (by kernel_rfl) (by kernel_rfl) (by decide) (by kernel_rfl) hS9 (fun K hK => ?_)
        simp only [Mix.pick]
        repeat (go_big_quiet_step (fail))
        refine wpQuiet_nil (hK _ ?_)
        clear hK K
        refine MixH.one [false, false, false, false, false, false, true] 1 6 _ rfl rfl (by kernel_rfl) (by kernel_rfl) (fun K hK => ?_)
        simp only [Mix.pick]
        go_wp2_with (first | (refine wpList_store_m8 (.tmp 2) (.tmp 84) rfl rfl (B + 1) m8z ⟨6, 135, 0, 0, ipL x 16 ++ ([1, 1] ++ mcL m)⟩ none (some ⟨g, 0, none⟩) 0 0 (ipL x 16 ++ ([1, 1] ++ mcL m)).length (ipL x 16 ++ ([1, 1] ++ mcL m)).length rfl rfl HR9.out rfl ?_))
        intro wE hRE kE
        have hSE : DiAt wE D 1 135 1 := DiAt.ch hS9 kE (fun e => by have e' : D = B + 1 := e; have := HDB.out; omega)
        have HRE : Hid (MAt wE (B + 1) ⟨6, 135, 0, 0, ipL x 16 ++ ([1, 1] ++ mcL m)⟩ (some ⟨g, 0, none⟩) (ipL x 16 ++ ([1, 1] ++ mcL m)).length (ipL x 16 ++ ([1, 1] ++ mcL m)).length) := hRE
        have HFE : Hid (Below w.heap.size w wE) := bel9.trans (kE.below (fun q e => by have e' : q = B + 1 := e; have := HB.out; omega) bel9.size)
        have hoE := kE.owns HOW.out (fun q hq e => by have h1 := own_ge HOW.out q hq; have e' : q = B + 1 := e; have := HBW9.out.2; omega)
        have HOE : Hid _ := owns_le hoE HBW9.out.1
        clear hRE kE hoE HOW HR9 bel9 hS9
        go_wp2
        refine ⟨rfl, hK _ _ hSE ?_⟩
        clear hK K
        refine MixH.takes [false, false, false, false, false, false, false, true] 0 (by kernel_rfl) (by kernel_rfl) (by decide) (by kernel_rfl) hSE (fun K hK => ?_)
        simp only [Mix.pick]
        repeat (go_big_quiet_step (fail))
        refine wpQuiet_nil (hK _ ?_)
        clear hK K
        refine MixH.done (by kernel_rfl) ?_
        go_wp2
        (try simp only [Exit.inBlock, Exit.then])
        refine bodyPost_ret (results_m8_tmp rfl _ _ (B + 1) ⟨6, 135, 0, 0, ipL x 16 ++ ([1, 1] ++ mcL m)⟩ (some ⟨g, 0, none⟩) (ipL x 16 ++ ([1, 1] ++ mcL m)).length (ipL x 16 ++ ([1, 1] ++ mcL m)).length rfl HRE.out) rfl ?_
        have epd : pnD 1 x true m = ipL x 16 ++ ([1, 1] ++ mcL m) := rfl
        exact ⟨.inr ⟨HE.out, g, by rw [epd, ← HRSE.out]; rfl, by rw [epd]; exact HOE.out⟩, HFE.out⟩
  · have HE : Hid (pnE 1 V x r s o h m = 1) := by unfold pnE; rw [if_pos (.inl ⟨rfl, by rw [← HRSE.out, hv]; decide⟩)]; rfl
    subst hv
    go_upto_region 4 with fail
    go_wp2_with (first | (refine wpList_build0 rfl rfl ?_) | (refine wpList_store_m8 (.tmp 2) (.tmp 48) rfl rfl (B + 1) m8z m8z none none 0 0 0 0 rfl rfl HR3.out rfl ?_))
    intro wE hRE kE
    have HRE : Hid (MAt wE (B + 1) m8z none 0 0) := hRE
    have HFE : Hid (Below w.heap.size w wE) := bel3.trans (kE.below (fun q e => by have e' : q = B + 1 := e; have := HB.out; omega) bel3.size)
    clear hRE kE
    go_wp2
    (try simp only [Exit.inBlock, Exit.then])
    refine bodyPost_ret (results_m8_tmp rfl _ _ (B + 1) m8z none 0 0 rfl HRE.out) rfl ?_
    exact ⟨.inl ⟨by rw [HE.out]; decide, by rw [HE.out]; rfl⟩, HFE.out⟩
  · have HE : Hid (pnE 1 V x r s o h m = 1) := by unfold pnE; rw [if_pos (.inl ⟨rfl, by rw [← HRSE.out, hv]; decide⟩)]; rfl
    subst hv
    go_upto_region 4 with fail
    go_wp2_with (first | (refine wpList_build0 rfl rfl ?_) | (refine wpList_store_m8 (.tmp 2) (.tmp 48) rfl rfl (B + 1) m8z m8z none none 0 0 0 0 rfl rfl HR3.out rfl ?_))
    intro wE hRE kE
    have HRE : Hid (MAt wE (B + 1) m8z none 0 0) := hRE
    have HFE : Hid (Below w.heap.size w wE) := bel3.trans (kE.below (fun q e => by have e' : q = B + 1 := e; have := HB.out; omega) bel3.size)
    clear hRE kE
    go_wp2
    (try simp only [Exit.inBlock, Exit.then])
    refine bodyPost_ret (results_m8_tmp rfl _ _ (B + 1) m8z none 0 0 rfl HRE.out) rfl ?_
    exact ⟨.inl ⟨by rw [HE.out]; decide, by rw [HE.out]; rfl⟩, HFE.out⟩
  · have HE : Hid (pnE 1 V x r s o h m = 1) := by unfold pnE; rw [if_pos (.inl ⟨rfl, by rw [← HRSE.out, hv]; decide⟩)]; rfl
    subst hv
    go_upto_region 4 with fail
    go_wp2_with (first | (refine wpList_build0 rfl rfl ?_) | (refine wpList_store_m8 (.tmp 2) (.tmp 48) rfl rfl (B + 1) m8z m8z none none 0 0 0 0 rfl rfl HR3.out rfl ?_))
    intro wE hRE kE
    have HRE : Hid (MAt wE (B + 1) m8z none 0 0) := hRE
    have HFE : Hid (Below w.heap.size w wE) := bel3.trans (kE.below (fun q e => by have e' : q = B + 1 := e; have := HB.out; omega) bel3.size)
    clear hRE kE
    go_wp2
    (try simp only [Exit.inBlock, Exit.then])
    refine bodyPost_ret (results_m8_tmp rfl _ _ (B + 1) m8z none 0 0 rfl HRE.out) rfl ?_
    exact ⟨.inl ⟨by rw [HE.out]; decide, by rw [HE.out]; rfl⟩, HFE.out⟩
  · have HE : Hid (pnE 1 V x r s o h m = 1) := by unfold pnE; rw [if_pos (.inl ⟨rfl, by rw [← HRSE.out, hv]; decide⟩)]; rfl
    subst hv
    go_upto_region 4 with fail
    go_wp2_with (first | (refine wpList_build0 rfl rfl ?_) | (refine wpList_store_m8 (.tmp 2) (.tmp 48) rfl rfl (B + 1) m8z m8z none none 0 0 0 0 rfl rfl HR3.out rfl ?_))
    intro wE hRE kE
    have HRE : Hid (MAt wE (B + 1) m8z none 0 0) := hRE
    have HFE : Hid (Below w.heap.size w wE) := bel3.trans (kE.below (fun q e => by have e' : q = B + 1 := e; have := HB.out; omega) bel3.size)
    clear hRE kE
    go_wp2
    (try simp only [Exit.inBlock, Exit.then])
    refine bodyPost_ret (results_m8_tmp rfl _ _ (B + 1) m8z none 0 0 rfl HRE.out) rfl ?_
    exact ⟨.inl ⟨by rw [HE.out]; decide, by rw [HE.out]; rfl⟩, HFE.out⟩
  · have HE : Hid (pnE 1 V x r s o h m = 1) := by unfold pnE; rw [if_pos (.inl ⟨rfl, by rw [← HRSE.out, hv]; decide⟩)]; rfl
    subst hv
    go_upto_region 4 with fail
    go_wp2_with (first | (refine wpList_build0 rfl rfl ?_) | (refine wpList_store_m8 (.tmp 2) (.tmp 48) rfl rfl (B + 1) m8z m8z none none 0 0 0 0 rfl rfl HR3.out rfl ?_))
    intro wE hRE kE
    have HRE : Hid (MAt wE (B + 1) m8z none 0 0) := hRE
    have HFE : Hid (Below w.heap.size w wE) := bel3.trans (kE.below (fun q e => by have e' : q = B + 1 := e; have := HB.out; omega) bel3.size)
    clear hRE kE
    go_wp2
    (try simp only [Exit.inBlock, Exit.then])
    refine bodyPost_ret (results_m8_tmp rfl _ _ (B + 1) m8z none 0 0 rfl HRE.out) rfl ?_
    exact ⟨.inl ⟨by rw [HE.out]; decide, by rw [HE.out]; rfl⟩, HFE.out⟩
  · have HE : Hid (pnE 1 V x r s o h m = 1) := by unfold pnE; rw [if_pos (.inl ⟨rfl, by rw [← HRSE.out, hv]; decide⟩)]; rfl
    subst hv
    go_upto_region 4 with fail
    go_wp2_with (first | (refine wpList_build0 rfl rfl ?_) | (refine wpList_store_m8 (.tmp 2) (.tmp 48) rfl rfl (B + 1) m8z m8z none none 0 0 0 0 rfl rfl HR3.out rfl ?_))
    intro wE hRE kE
    have HRE : Hid (MAt wE (B + 1) m8z none 0 0) := hRE
    have HFE : Hid (Below w.heap.size w wE) := bel3.trans (kE.below (fun q e => by have e' : q = B + 1 := e; have := HB.out; omega) bel3.size)
    clear hRE kE
    go_wp2
    (try simp only [Exit.inBlock, Exit.then])
    refine bodyPost_ret (results_m8_tmp rfl _ _ (B + 1) m8z none 0 0 rfl HRE.out) rfl ?_
    exact ⟨.inl ⟨by rw [HE.out]; decide, by rw [HE.out]; rfl⟩, HFE.out⟩
  · have HE : Hid (pnE 1 V x r s o h m = 1) := by unfold pnE; rw [if_pos (.inl ⟨rfl, by rw [← HRSE.out, hv]; decide⟩)]; rfl
    subst hv
    go_upto_region 4 with fail
    go_wp2_with (first | (refine wpList_build0 rfl rfl ?_) | (refine wpList_store_m8 (.tmp 2) (.tmp 48) rfl rfl (B + 1) m8z m8z none none 0 0 0 0 rfl rfl HR3.out rfl ?_))
    intro wE hRE kE
    have HRE : Hid (MAt wE (B + 1) m8z none 0 0) := hRE
    have HFE : Hid (Below w.heap.size w wE) := bel3.trans (kE.below (fun q e => by have e' : q = B + 1 := e; have := HB.out; omega) bel3.size)
    clear hRE kE
    go_wp2
    (try simp only [Exit.inBlock, Exit.then])
    refine bodyPost_ret (results_m8_tmp rfl _ _ (B + 1) m8z none 0 0 rfl HRE.out) rfl ?_
    exact ⟨.inl ⟨by rw [HE.out]; decide, by rw [HE.out]; rfl⟩, HFE.out⟩
end Go.Proofs.YtijipfciimcnpaaDoor
