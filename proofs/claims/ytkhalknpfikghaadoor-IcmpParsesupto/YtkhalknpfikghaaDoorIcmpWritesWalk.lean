/-
  IcmpWrites: the walk.
-/
import Derived.Test.YtkhalknpfikghaaDoorI8Mark
import Derived.Test.YtkhalknpfikghaaDoorIcmpBackWalk
namespace Go.Proofs.YtkhalknpfikghaaDoor
open Go.RowKit
open I8 (M8)

theorem MAt.set4 {w : World} {O : Nat} {m : M8} {da : Option Addr} {n c : Nat} (k : MAt w O m da n c) (d : List Nat) (da' : Option Addr) (n' c' : Nat) : MAt (w.setCell ⟨O, 4, none⟩ (.slice da' n' c')) O ⟨m.v, m.t, m.c, m.r, d⟩ da' n' c' ∧ Ch (fun q => q = O) w (w.setCell ⟨O, 4, none⟩ (.slice da' n' c')) := by
  refine ⟨?_, (Ch.refl (fun q => q = O) w).set _ _ rfl⟩
  unfold MAt at k ⊢
  rw [heap_setCell_same _ _ _ _ _ _ k]
  rfl
/-- what Serialise leaves, in one form -/
def outL (er : Nat) (l : List Nat) : List Nat := if er = 0 then l else []
theorem ser_one {w w' : World} {L : Nat} {l : List Nat} {er : Nat} {v : Value} (hl : l.length = L) (h : SerRes w L l er v w') : ∃ ba, v = .slice ba (outL er l).length (outL er l).length ∧ OwnB w' w.heap.size (.slice ba (outL er l).length (outL er l).length) (outL er l).length (outL er l) := by
  rcases h with ⟨h0, g, rfl, ho⟩ | ⟨hne, rfl⟩
  · unfold outL
    rw [if_pos h0, hl]
    exact ⟨_, rfl, ho⟩
  · unfold outL
    rw [if_neg hne]
    exact ⟨none, rfl, World.ownsRow_nil _ _ _ _⟩
theorem rser_one {w w' : World} {L : Nat} {l : List Nat} {er : Nat} {v : Value} (hl : l.length = L) (h : RSer w L l er v w') : ∃ ba c, v = .slice ba (outL er l).length c ∧ OwnB w' w.heap.size (.slice ba (outL er l).length c) (outL er l).length (outL er l) := by
  rcases h with ⟨h0, a, c, rfl, ho⟩ | ⟨hne, rfl⟩
  · unfold outL
    rw [if_pos h0, hl]
    exact ⟨_, _, rfl, ho⟩
  · unfold outL
    rw [if_neg hne]
    exact ⟨none, 0, rfl, World.ownsRow_nil _ _ _ _⟩
theorem cut6_len (l : List Nat) : (cut6 l).length ≤ 66000 := by unfold cut6; rw [List.length_take]; omega
set_option maxHeartbeats 6400000 in
set_option maxRecDepth 100000 in
theorem icmpWrites.walk (w : World) (hw : Wid8 w) (hd : Dis8 w) (V : Int) (x : Nat → Nat) (hx : ∀ i, i < 16 → x i < 256) (U : Int) (y : Nat → Nat) (hy : ∀ i, i < 16 → y i < 256) (m : M8) (da : Option Addr) (n c : Nat) (k : MOk w m da n c) :
    Calls Tryd.prog 5 #[.agg (ipCells V x), .agg (ipCells U y), .agg (mC m da n c)] w fun e w' => e = .returned (.bool true) ∧ Below w.heap.size w w' := by
  obtain ⟨A, hA⟩ : ∃ A, A = ipCells V x := ⟨_, rfl⟩
  obtain ⟨C, hC⟩ : ∃ C, C = ipCells U y := ⟨_, rfl⟩
  obtain ⟨M, hM⟩ : ∃ M, M = mC m da n c := ⟨_, rfl⟩
  have hx1 := boxed_new w V x 24
  have hy1 := boxed_new (w.alloc (.cells (ipCells V x) 24)) U y 24
  rw [World.size_alloc] at hy1
  have hx2 := hx1.old ((Below.refl _ _).alloc (Nat.le_refl _) (.cells (ipCells U y) 24))
  clear hx1
  rw [← hA] at hx2 hy1 ⊢
  rw [← hC] at hx2 hy1 ⊢
  have s2 : ((w.alloc (.cells A 24)).alloc (.cells C 24)).heap.size = w.heap.size + 1 + 1 := by simp
  have hr := mAt_new ((w.alloc (.cells A 24)).alloc (.cells C 24)) m da n c
  rw [s2, ← hM] at hr
  have b3 : Below ((w.alloc (.cells A 24)).alloc (.cells C 24)).heap.size ((w.alloc (.cells A 24)).alloc (.cells C 24)) (((w.alloc (.cells A 24)).alloc (.cells C 24)).alloc (.cells M 27)) := (Below.refl _ _).alloc (Nat.le_refl _) _
  have hx3 := hx2.old b3
  have hy3 := hy1.old b3
  have bel : Below w.heap.size w (((w.alloc (.cells A 24)).alloc (.cells C 24)).alloc (.cells M 27)) := (((Below.refl _ _).alloc (Nat.le_refl _) _).alloc (by simp) _).alloc (by simp; omega) _
  clear hx2 hy1 b3 s2
  obtain ⟨W, hW⟩ : ∃ W, W = ((w.alloc (.cells A 24)).alloc (.cells C 24)).alloc (.cells M 27) := ⟨_, rfl⟩
  rw [← hW] at hr hx3 hy3 bel
  obtain ⟨B, hB⟩ : ∃ B, B = w.heap.size := ⟨_, rfl⟩
  have HB : Hid (w.heap.size = B) := hB.symm
  rw [← hB] at hr hx3 hy3
  obtain ⟨O, hO⟩ : ∃ O, O = B + 1 + 1 := ⟨_, rfl⟩
  rw [← hO] at hr
  have HW : Hid (((w.alloc (.cells A 24)).alloc (.cells C 24)).alloc (.cells M 27) = W) := hW.symm
  have HO : Hid (B + 1 + 1 = O) := hO.symm
  have HR : Hid (MAt W O m da n c) := hr
  have HXB : Hid (Boxed W B V x) := hx3
  have HYB : Hid (Boxed W (B + 1) U y) := hy3
  have HXX : Hid (∀ i, i < 16 → x i < 256) := hx
  have HYY : Hid (∀ i, i < 16 → y i < 256) := hy
  have HK : Hid (MOk w m da n c) := k
  have HWID : Hid (∀ A, Below w.heap.size w A → Wid8 A) := fun A hA => hw.old hA
  have HDIS : Hid (∀ A, Below w.heap.size w A → Dis8 A) := fun A hA => hd.old hA
  have QA : Hid _ := awake_any W (hw.old bel) (hd.old bel)
  rw [← hM]
  clear hW hr hx3 hy3 hO hx hy hw hA hC hM hB k hd
  go_enter Tryd.func5, Tryd.ntmps5
  go_upto_region 1 with fail
  rw [HB.out, HO.out, HW.out]
  go_wp2_with fail
  refine Calls.mono QA.out ?_
  rintro e w1 ⟨rfl, hb1⟩
  have bel1 := bthen bel hb1
  have HR1 : Hid (MAt w1 O m da n c) := HR.out.below hb1
  have HX1 : Hid (Boxed w1 B V x) := HXB.out.old hb1
  have HY1 : Hid (Boxed w1 (B + 1) U y) := HYB.out.old hb1
  clear hb1 QA HR HXB HYB HW
  go_upto_region 4 with (first | (refine wpList_load_m8 (.tmp 5) rfl O m da n c rfl HR1.out rfl ?_) | (refine wpList_alloc_m8 rfl rfl ?_) | (refine wpList_store_m8 (.tmp 7) (.tmp 20) rfl rfl w1.heap.size m8z m none da 0 0 n c rfl rfl (mAt_new _ _ _ _ _) rfl ?_))
  intro w2 hR2 k2
  have hb2 : Below w1.heap.size w1 w2 := ((Below.refl _ _).alloc (Nat.le_refl _) _).trans (k2.below (fun q e => by have e' : q = w1.heap.size := e; omega) (by simp))
  have bel2 := bthen bel1 hb2
  obtain ⟨P, hP⟩ : ∃ P, P = w1.heap.size := ⟨_, rfl⟩
  rw [← hP] at hR2 ⊢
  have HPO : Hid (O < P) := by rw [hP]; exact HR1.out.lt
  have HPB : Hid (w.heap.size ≤ P) := by rw [hP]; exact bel1.size
  have HBP : Hid (B + 1 < P) := by rw [hP]; exact World.block_lt_of_cell? w1 _ HY1.out.ver
  have HI2 : Hid (MAt w2 P m da n c) := hR2
  have HR2 : Hid (MAt w2 O m da n c) := HR1.out.below hb2
  have HX2 : Hid (Boxed w2 B V x) := HX1.out.old hb2
  have HY2 : Hid (Boxed w2 (B + 1) U y) := HY1.out.old hb2
  have c4 := HR2.out.c4
  have QL : Hid _ := laid8_any da n c m.d w2 HK.out.dl (HK.out.old bel2).seg HK.out.cap
  clear hR2 k2 hb2 hP HR1 HX1 HY1 bel1
  go_upto_region 4 with fail
  go_wp2_with fail
  refine Calls.mono QL.out ?_
  rintro e w3 ⟨g, gc, N, rfl, hN, hN6, hown, hb3⟩
  have bel3 := bthen bel2 hb3
  obtain ⟨bs, hbs⟩ : ∃ bs, bs = cut6 m.d := ⟨_, rfl⟩
  rw [← hbs] at hown hN
  have H256 : Hid (∀ z ∈ bs, z < 256) := by rw [hbs]; exact fun z hz => HK.out.d256 z (List.mem_of_mem_take hz)
  have HN : Hid (bs.length = N) := hN.symm
  have HGL : Hid (w2.heap.size ≤ g ∧ g < w3.heap.size) := hown.lt g rfl
  have HOW3 : Hid (OwnB w3 w2.heap.size (.slice (some ⟨g, 0, none⟩) (N + 5) gc) (N + 5) (bs ++ lMarks)) := hown
  have HCC : Hid (N + 5 ≤ gc ∧ gc ≤ 9223372036854775807) := (owns_seg_at hown).2
  have HI3 : Hid (MAt w3 P m da n c) := HI2.out.below hb3
  have HR3 : Hid (MAt w3 O m da n c) := HR2.out.below hb3
  have HX3 : Hid (Boxed w3 B V x) := HX2.out.old hb3
  have HY3 : Hid (Boxed w3 (B + 1) U y) := HY2.out.old hb3
  obtain ⟨m', hm'⟩ : ∃ m' : M8, m' = ⟨m.v, m.t, m.c, m.r, bs⟩ := ⟨_, rfl⟩
  have HMD : Hid (m'.d = bs) := by rw [hm']; exact rfl
  have HMM : Hid (m' = ⟨m.v, m.t, m.c, m.r, bs⟩) := hm'
  have hset := HI3.out.set4 bs (some ⟨g, 0, none⟩) N gc
  rw [← hm'] at hset
  have f4 := HI3.out.fz 4
  have x4 := HI3.out.c4
  obtain ⟨w4, hw4⟩ : ∃ w4, w4 = w3.setCell ⟨P, 4, none⟩ (.slice (some ⟨g, 0, none⟩) N gc) := ⟨_, rfl⟩
  have HW4 : Hid (w3.setCell ⟨P, 4, none⟩ (.slice (some ⟨g, 0, none⟩) N gc) = w4) := hw4.symm
  rw [← hw4] at hset
  have HI4 : Hid (MAt w4 P m' (some ⟨g, 0, none⟩) N gc) := hset.1
  have ch4 := hset.2
  have HSZ : Hid (w2.heap.size ≤ w3.heap.size ∧ P < w2.heap.size) := ⟨hb3.size, HI2.out.lt⟩
  have bel4 : Below w.heap.size w w4 := bel3.trans (ch4.below (fun q e => by have e' : q = P := e; have := HPB.out; omega) bel3.size)
  have HR4 : Hid (MAt w4 O m da n c) := HR3.out.ch ch4 (fun e => by have e' : O = P := e; have := HPO.out; omega)
  have HX4 : Hid (Boxed w4 B V x) := HX3.out.ch ch4 (fun e => by have e' : B = P := e; have := HBP.out; omega)
  have HY4 : Hid (Boxed w4 (B + 1) U y) := HY3.out.ch ch4 (fun e => by have e' : B + 1 = P := e; have := HBP.out; omega)
  have HOW4 : Hid (OwnB w4 w2.heap.size (.slice (some ⟨g, 0, none⟩) (N + 5) gc) (N + 5) (bs ++ lMarks)) := ch4.owns hown (fun q hq e => by have e' : q = P := e; have h1 := (hown.lt q hq).1; have := HSZ.out.2; omega)
  have HW4S : Hid (P < w4.heap.size) := HI4.out.lt
  have HLL : Hid ((bs ++ lMarks).length = N + 5) := by show _ = _; rw [List.length_append, HN.out]; rfl
  clear hbs hown hN hb3 QL c4 HI2 HR2 HX2 HY2 HI3 HR3 HX3 HY3 hset ch4 hw4 HOW3 bel2 bel3 hm'
  go_upto_region 6 with fail
  rw [HW4.out]
  clear f4 x4 HW4
  have QC1 : Hid _ := copied8_any (some ⟨g, 0, none⟩) (N + 5) gc (bs ++ lMarks) w4 HLL.out (owns_seg_at HOW4.out).1 (by omega)
  go_wp2_with fail
  refine Calls.mono QC1.out ?_
  rintro e w5 ⟨vw, rfl, how, hb5⟩
  have bel5 := bthen bel4 hb5
  obtain ⟨wa, wcp, rfl⟩ := owns_shape how
  have HWAS5 : Hid (OwnB w5 w4.heap.size (.slice wa (N + 5) wcp) (N + 5) (bs ++ lMarks)) := how
  have HI5 : Hid (MAt w5 P m' (some ⟨g, 0, none⟩) N gc) := HI4.out.below hb5
  have HR5 : Hid (MAt w5 O m da n c) := HR4.out.below hb5
  have HX5 : Hid (Boxed w5 B V x) := HX4.out.old hb5
  have HY5 : Hid (Boxed w5 (B + 1) U y) := HY4.out.old hb5
  have HOW5 : Hid (OwnB w5 w2.heap.size (.slice (some ⟨g, 0, none⟩) (N + 5) gc) (N + 5) (bs ++ lMarks)) := own_below HOW4.out hb5
  have HIN : Hid (∀ A, Seg .u8 A (some ⟨g, 0, none⟩) (toI (bs ++ lMarks)) → Seg .u8 A (some ⟨g, 0, none⟩) (toI bs)) := fun A hA => by
    have h1 := hA.part0 N (by rw [toI_len, HLL.out]; omega)
    rw [toI_take, ← HN.out, List.take_left'] at h1
    · exact h1
    · rfl
  have QC2 : Hid _ := copied8_any (some ⟨g, 0, none⟩) N gc bs w5 HN.out (HIN.out w5 (owns_seg_at HOW5.out).1) (by omega)
  clear how hb5 QC1 HI4 HR4 HX4 HY4 HOW4 bel4
  go_wp2_with fail
  refine Calls.mono QC2.out ?_
  rintro e w6 ⟨vd, rfl, hod, hb6⟩
  have bel6 := bthen bel5 hb6
  obtain ⟨va, vc, rfl⟩ := owns_shape hod
  have HR6 : Hid (MAt w6 O m da n c) := HR5.out.below hb6
  have hset := HR6.out.set4 bs va N vc
  obtain ⟨m2, hm2⟩ : ∃ m2 : M8, m2 = ⟨m.v, m.t, m.c, m.r, bs⟩ := ⟨_, rfl⟩
  rw [← hm2] at hset
  have f4 := HR6.out.fz 4
  have x4 := HR6.out.c4
  obtain ⟨w7, hw7⟩ : ∃ w7, w7 = w6.setCell ⟨O, 4, none⟩ (.slice va N vc) := ⟨_, rfl⟩
  have HW7 : Hid (w6.setCell ⟨O, 4, none⟩ (.slice va N vc) = w7) := hw7.symm
  rw [← hw7] at hset
  have ch7 := hset.2
  have HOB : Hid (w.heap.size ≤ O) := by have := HO.out; have := HB.out; show _ ≤ _; omega
  have bel7 : Below w.heap.size w w7 := bel6.trans (ch7.below (fun q e => by have e' : q = O := e; have := HOB.out; omega) bel6.size)
  have HO5 : Hid (O < w5.heap.size) := HR5.out.lt
  have HR7' : MAt w7 O m2 va N vc := hset.1
  have HI7 : Hid (MAt w7 P m' (some ⟨g, 0, none⟩) N gc) := (HI5.out.below hb6).ch ch7 (fun e => by have e' : P = O := e; have := HPO.out; omega)
  have HX7 : Hid (Boxed w7 B V x) := (HX5.out.old hb6).ch ch7 (fun e => by have e' : B = O := e; have := HO.out; omega)
  have HY7 : Hid (Boxed w7 (B + 1) U y) := (HY5.out.old hb6).ch ch7 (fun e => by have e' : B + 1 = O := e; have := HO.out; omega)
  have HOW7 : Hid (OwnB w7 w2.heap.size (.slice (some ⟨g, 0, none⟩) (N + 5) gc) (N + 5) (bs ++ lMarks)) := ch7.owns (own_below HOW5.out hb6) (fun q hq e => by have e' : q = O := e; have h1 := (HOW5.out.lt q hq).1; have := HSZ.out.2; have := HPO.out; omega)
  have HWAS7 : Hid (OwnB w7 w4.heap.size (.slice wa (N + 5) wcp) (N + 5) (bs ++ lMarks)) := ch7.owns (own_below HWAS5.out hb6) (fun q hq e => by have e' : q = O := e; have h1 := (HWAS5.out.lt q hq).1; have h2 := HI5.out.lt; have := HPO.out; have := HW4S.out; omega)
  have HVD7 : Hid (OwnB w7 w5.heap.size (.slice va N vc) N bs) := ch7.owns hod (fun q hq e => by have e' : q = O := e; have h1 := (hod.lt q hq).1; have := HO5.out; omega)
  have HEQM : Hid (m2 = m') := by show _ = _; rw [hm2, HMM.out]
  rw [HEQM.out] at HR7'
  have HR7 : Hid (MAt w7 O m' va N vc) := HR7'
  clear hod hb6 QC2 HI5 HR5 HX5 HY5 HOW5 HWAS5 HR6 hset ch7 hw7 bel5 bel6 HR7' hm2
  go_upto_region 8 with fail
  rw [HW7.out]
  clear f4 x4 HW7 HEQM
  have HDL : Hid (m'.d.length = N) := by rw [HMD.out]; exact HN.out
  have HKI : Hid (∀ A, Seg .u8 A (some ⟨g, 0, none⟩) (toI (bs ++ lMarks)) → MOk A m' (some ⟨g, 0, none⟩) N gc) := fun A hA => ⟨HDL.out, by rw [HMD.out]; exact HIN.out A hA, by rw [HMD.out]; exact H256.out, by have := HCC.out.1; omega, HCC.out.2, by omega⟩
  have QK : Hid _ := icCheck_any m' (some ⟨g, 0, none⟩) N gc w7 HDL.out (by omega)
  go_wp2_with (first | (refine wpList_load_m8 (.tmp 7) rfl P m' (some ⟨g, 0, none⟩) N gc rfl HI7.out rfl ?_))
  refine Calls.mono QK.out ?_
  rintro e w8 ⟨rfl, hb8⟩
  have bel8 := bthen bel7 hb8
  have HI8 : Hid (MAt w8 P m' (some ⟨g, 0, none⟩) N gc) := HI7.out.below hb8
  have HR8 : Hid (MAt w8 O m' va N vc) := HR7.out.below hb8
  have HX8 : Hid (Boxed w8 B V x) := HX7.out.old hb8
  have HY8 : Hid (Boxed w8 (B + 1) U y) := HY7.out.old hb8
  have HOW8 : Hid (OwnB w8 w2.heap.size (.slice (some ⟨g, 0, none⟩) (N + 5) gc) (N + 5) (bs ++ lMarks)) := own_below HOW7.out hb8
  have HWAS8 : Hid (OwnB w8 w4.heap.size (.slice wa (N + 5) wcp) (N + 5) (bs ++ lMarks)) := own_below HWAS7.out hb8
  have HVD8 : Hid (OwnB w8 w5.heap.size (.slice va N vc) N bs) := own_below HVD7.out hb8
  have QS : Hid _ := icSer_any V U x y m' (some ⟨g, 0, none⟩) N gc w8 (HWID.out w8 bel8) (HKI.out w8 (owns_seg_at HOW8.out).1) HXX.out HYY.out
  clear hb8 QK HI7 HR7 HX7 HY7 HOW7 HWAS7 HVD7 bel7
  go_wp2_with (first | (refine wpList_load_ip (.tmp 3) rfl B V x rfl HX8.out rfl ?_) | (refine wpList_load_ip (.tmp 4) rfl (B + 1) U y rfl HY8.out rfl ?_) | (refine wpList_load_m8 (.tmp 7) rfl P m' (some ⟨g, 0, none⟩) N gc rfl HI8.out rfl ?_))
  refine Calls.mono QS.out ?_
  rintro e w9 ⟨sv, er, rfl, her, hb9, hsr⟩
  have bel9 := bthen bel8 hb9
  have HSLN : Hid ((I8.ser m' (psB m'.v V U x y (8 + N))).length = 8 + N) := by show _ = _; rw [I8.ser_len, HDL.out]
  obtain ⟨ba, hba, hbo⟩ := ser_one HSLN.out hsr
  obtain ⟨sl, hsl⟩ : ∃ sl, sl = outL er (I8.ser m' (psB m'.v V U x y (8 + N))) := ⟨_, rfl⟩
  rw [← hsl] at hba hbo
  have hsl2 : sl.length ≤ 66008 := by
    rw [hsl]
    unfold outL
    split
    · rw [HSLN.out]; omega
    · simp
  obtain ⟨L, hL⟩ : ∃ L, L = sl.length := ⟨_, rfl⟩
  rw [← hL] at hba hbo hsl2
  subst hba
  have HSLL : Hid (sl.length = L) := hL.symm
  have HSL : Hid (sl = outL er (I8.ser m' (psB m'.v V U x y (8 + N)))) := hsl
  have HER : Hid (er = I8.sE m' (six6 V U)) := her
  have HBO9 : Hid (OwnB w9 w8.heap.size (.slice ba L L) L sl) := hbo
  have HI9 : Hid (MAt w9 P m' (some ⟨g, 0, none⟩) N gc) := HI8.out.below hb9
  have HR9 : Hid (MAt w9 O m' va N vc) := HR8.out.below hb9
  have HX9 : Hid (Boxed w9 B V x) := HX8.out.old hb9
  have HY9 : Hid (Boxed w9 (B + 1) U y) := HY8.out.old hb9
  have HOW9 : Hid (OwnB w9 w2.heap.size (.slice (some ⟨g, 0, none⟩) (N + 5) gc) (N + 5) (bs ++ lMarks)) := own_below HOW8.out hb9
  have HWAS9 : Hid (OwnB w9 w4.heap.size (.slice wa (N + 5) wcp) (N + 5) (bs ++ lMarks)) := own_below HWAS8.out hb9
  have HVD9 : Hid (OwnB w9 w5.heap.size (.slice va N vc) N bs) := own_below HVD8.out hb9
  have HKR : Hid (MOk w9 m' va N vc) := by
    obtain ⟨h1, h2, h3⟩ := owns_seg_at HVD9.out
    exact ⟨HDL.out, by rw [HMD.out]; exact h1, by rw [HMD.out]; exact H256.out, h2, h3, by omega⟩
  have HLT8 : Hid (P < w8.heap.size ∧ O < w8.heap.size ∧ B + 1 < w8.heap.size ∧ (∀ q, (Value.slice (some (⟨g, 0, none⟩ : Addr)) (N + 5) gc).ownBlock = some q → q < w8.heap.size) ∧ ∀ q, (Value.slice wa (N + 5) wcp).ownBlock = some q → q < w8.heap.size) := ⟨HI8.out.lt, HR8.out.lt, World.block_lt_of_cell? w8 _ HY8.out.ver, fun q hq => (HOW8.out.lt q hq).2, fun q hq => (HWAS8.out.lt q hq).2⟩
  have QR : Hid _ := rSer_any V U x y m' va N vc w9 HKR.out HXX.out HYY.out
  clear hsl hL her hbo hsr hb9 QS HI8 HR8 HX8 HY8 HOW8 HWAS8 HVD8 bel8
  go_wp2_with (first | (refine wpList_load_ip (.tmp 3) rfl B V x rfl HX9.out rfl ?_) | (refine wpList_load_ip (.tmp 4) rfl (B + 1) U y rfl HY9.out rfl ?_) | (refine wpList_load_m8 (.tmp 5) rfl O m' va N vc rfl HR9.out rfl ?_))
  refine Calls.mono QR.out ?_
  rintro e w10 ⟨rv, er2, rfl, her2, hb10, hrr⟩
  obtain rfl : er2 = er := by rw [her2, HER.out]
  have bel10 := bthen bel9 hb10
  obtain ⟨ra, rc, hra, hro⟩ := rser_one HSLN.out hrr
  rw [← HSL.out, HSLL.out] at hra hro
  subst hra
  have HRO10 : Hid (OwnB w10 w9.heap.size (.slice ra L rc) L sl) := hro
  have HBO10 : Hid (OwnB w10 w8.heap.size (.slice ba L L) L sl) := own_below HBO9.out hb10
  have HI10 : Hid (MAt w10 P m' (some ⟨g, 0, none⟩) N gc) := HI9.out.below hb10
  have HR10 : Hid (MAt w10 O m' va N vc) := HR9.out.below hb10
  have HX10 : Hid (Boxed w10 B V x) := HX9.out.old hb10
  have HY10 : Hid (Boxed w10 (B + 1) U y) := HY9.out.old hb10
  have HOW10 : Hid (OwnB w10 w2.heap.size (.slice (some ⟨g, 0, none⟩) (N + 5) gc) (N + 5) (bs ++ lMarks)) := own_below HOW9.out hb10
  have HWAS10 : Hid (OwnB w10 w4.heap.size (.slice wa (N + 5) wcp) (N + 5) (bs ++ lMarks)) := own_below HWAS9.out hb10
  have HBL : Hid (∀ q, (Value.slice ba L L).ownBlock = some q → w8.heap.size ≤ q ∧ q < w9.heap.size) := fun q hq => HBO9.out.lt q hq
  have QK2 : Hid _ := rCheck_any m' va N vc w10 HDL.out
  obtain ⟨ck, hck⟩ : ∃ ck, ck = I8.chk m' := ⟨_, rfl⟩
  rw [← hck] at QK2 ⊢
  have n1 : ((ck : Int) != (ck : Int)) = false := by simp
  have n2 : ((er2 : Int) != (er2 : Int)) = false := by simp
  clear her2 hro hrr hb10 QR HI9 HR9 HX9 HY9 HOW9 HWAS9 HVD9 HBO9 HKR bel9 hck
  have HERR : Hid (er2 = I8.sE m' (six6 V U)) := HER.out
  have HSLL2 : Hid (sl = outL er2 (I8.ser m' (psB m'.v V U x y (8 + N)))) := HSL.out
  clear HSL HER
  go_wp2_with (first | (refine wpList_load_m8 (.tmp 5) rfl O m' va N vc rfl HR10.out rfl ?_))
  refine Calls.mono QK2.out ?_
  rintro e w11 ⟨rfl, hb11⟩
  have bel11 := bthen bel10 hb11
  have HRO11 : Hid (OwnB w11 w9.heap.size (.slice ra L rc) L sl) := own_below HRO10.out hb11
  have HBO11 : Hid (OwnB w11 w8.heap.size (.slice ba L L) L sl) := own_below HBO10.out hb11
  have HI11 : Hid (MAt w11 P m' (some ⟨g, 0, none⟩) N gc) := HI10.out.below hb11
  have HX11 : Hid (Boxed w11 B V x) := HX10.out.old hb11
  have HY11 : Hid (Boxed w11 (B + 1) U y) := HY10.out.old hb11
  have HOW11 : Hid (OwnB w11 w2.heap.size (.slice (some ⟨g, 0, none⟩) (N + 5) gc) (N + 5) (bs ++ lMarks)) := own_below HOW10.out hb11
  have HWAS11 : Hid (OwnB w11 w4.heap.size (.slice wa (N + 5) wcp) (N + 5) (bs ++ lMarks)) := own_below HWAS10.out hb11
  have QE1 := same8_any ba ra L L L rc sl sl w11 HSLL.out HSLL.out (owns_seg_at HBO11.out).1 (owns_seg_at HRO11.out).1 (by omega)
  rw [decide_eq_true (rfl : sl = sl)] at QE1
  have QE : Hid _ := QE1
  clear QE1 hb11 QK2 HI10 HR10 HX10 HY10 HOW10 HWAS10 HBO10 HRO10 bel10
  go_wp2_with fail
  refine Calls.mono QE.out ?_
  rintro e w12 ⟨rfl, hb12⟩
  have bel12 := bthen bel11 hb12
  have HRO12 : Hid (OwnB w12 w9.heap.size (.slice ra L rc) L sl) := own_below HRO11.out hb12
  have HBO12 : Hid (OwnB w12 w8.heap.size (.slice ba L L) L sl) := own_below HBO11.out hb12
  have HI12 : Hid (MAt w12 P m' (some ⟨g, 0, none⟩) N gc) := HI11.out.below hb12
  have HX12 : Hid (Boxed w12 B V x) := HX11.out.old hb12
  have HY12 : Hid (Boxed w12 (B + 1) U y) := HY11.out.old hb12
  have HOW12 : Hid (OwnB w12 w2.heap.size (.slice (some ⟨g, 0, none⟩) (N + 5) gc) (N + 5) (bs ++ lMarks)) := own_below HOW11.out hb12
  have HWAS12 : Hid (OwnB w12 w4.heap.size (.slice wa (N + 5) wcp) (N + 5) (bs ++ lMarks)) := own_below HWAS11.out hb12
  have HSA : Hid (∀ A, OwnB A w2.heap.size (.slice (some ⟨g, 0, none⟩) (N + 5) gc) (N + 5) (bs ++ lMarks) → OwnB A w4.heap.size (.slice wa (N + 5) wcp) (N + 5) (bs ++ lMarks) → Calls Tryd.prog 12 #[.slice (some ⟨g, 0, none⟩) (N + 5) gc, .slice wa (N + 5) wcp] A fun e w' => e = .returned (.bool true) ∧ Below A.heap.size A w') := fun A h1 h2 => by
    have q := same8_any (some ⟨g, 0, none⟩) wa (N + 5) (N + 5) gc wcp (bs ++ lMarks) (bs ++ lMarks) A HLL.out HLL.out (owns_seg_at h1).1 (owns_seg_at h2).1 (by omega)
    rw [decide_eq_true (rfl : bs ++ lMarks = bs ++ lMarks)] at q
    exact q
  clear hb12 QE HI11 HX11 HY11 HOW11 HWAS11 HBO11 HRO11 bel11
  go_wp2_with fail
  refine Calls.mono (HSA.out w12 HOW12.out HWAS12.out) ?_
  rintro e w13 ⟨rfl, hb13⟩
  have bel13 := bthen bel12 hb13
  have HRO13 : Hid (OwnB w13 w9.heap.size (.slice ra L rc) L sl) := own_below HRO12.out hb13
  have HBO13 : Hid (OwnB w13 w8.heap.size (.slice ba L L) L sl) := own_below HBO12.out hb13
  have HI13 : Hid (MAt w13 P m' (some ⟨g, 0, none⟩) N gc) := HI12.out.below hb13
  have HX13 : Hid (Boxed w13 B V x) := HX12.out.old hb13
  have HY13 : Hid (Boxed w13 (B + 1) U y) := HY12.out.old hb13
  have HOW13 : Hid (OwnB w13 w2.heap.size (.slice (some ⟨g, 0, none⟩) (N + 5) gc) (N + 5) (bs ++ lMarks)) := own_below HOW12.out hb13
  have HWAS13 : Hid (OwnB w13 w4.heap.size (.slice wa (N + 5) wcp) (N + 5) (bs ++ lMarks)) := own_below HWAS12.out hb13
  have QM : Hid _ := marked8_any w8.heap.size ba L 77 sl w13 HBO13.out (by omega) (by omega)
  clear hb13 HI12 HX12 HY12 HOW12 HWAS12 HBO12 HRO12 bel12
  go_wp2_with fail
  refine Calls.mono QM.out ?_
  rintro e w14 ⟨X, ps, rfl, hmk, _, chm⟩
  have HMK14 : Hid (Marks w14 X 77 ps) := hmk
  have bel14 : Below w.heap.size w w14 := bel13.trans (chm.below (fun q e => by have h1 := (HBL.out q e).1; have h2 := HLT8.out.1; have h3 := HPB.out; omega) bel13.size)
  have nS : ∀ q, q < w8.heap.size → ¬ (Value.slice ba L L).ownBlock = some q := fun q hq e => by have := (HBL.out q e).1; omega
  have HRO14 : Hid (OwnB w14 w9.heap.size (.slice ra L rc) L sl) := chm.owns HRO13.out (fun q hq e => by have h1 := (HRO13.out.lt q hq).1; have h2 := (HBL.out q e).2; omega)
  have HI14 : Hid (MAt w14 P m' (some ⟨g, 0, none⟩) N gc) := HI13.out.ch chm (nS _ HLT8.out.1)
  have HX14 : Hid (Boxed w14 B V x) := HX13.out.ch chm (nS _ (by have := HLT8.out.2.2.1; omega))
  have HY14 : Hid (Boxed w14 (B + 1) U y) := HY13.out.ch chm (nS _ HLT8.out.2.2.1)
  have HOW14 : Hid (OwnB w14 w2.heap.size (.slice (some ⟨g, 0, none⟩) (N + 5) gc) (N + 5) (bs ++ lMarks)) := chm.owns HOW13.out (fun q hq => nS q (HLT8.out.2.2.2.1 q hq))
  have HWAS14 : Hid (OwnB w14 w4.heap.size (.slice wa (N + 5) wcp) (N + 5) (bs ++ lMarks)) := chm.owns HWAS13.out (fun q hq => nS q (HLT8.out.2.2.2.2 q hq))
  have QS : Hid _ := icSer_any V U x y m' (some ⟨g, 0, none⟩) N gc w14 (HWID.out w14 bel14) (HKI.out w14 (owns_seg_at HOW14.out).1) HXX.out HYY.out
  clear hmk chm nS QM HI13 HX13 HY13 HOW13 HWAS13 HBO13 HRO13 bel13
  go_wp2_with (first | (refine wpList_load_ip (.tmp 3) rfl B V x rfl HX14.out rfl ?_) | (refine wpList_load_ip (.tmp 4) rfl (B + 1) U y rfl HY14.out rfl ?_) | (refine wpList_load_m8 (.tmp 7) rfl P m' (some ⟨g, 0, none⟩) N gc rfl HI14.out rfl ?_))
  refine Calls.mono QS.out ?_
  rintro e w15 ⟨dv, er3, rfl, her3, hb15, hdr⟩
  obtain rfl : er3 = er2 := by rw [her3, HERR.out]
  have bel15 := bthen bel14 hb15
  obtain ⟨dba, hdba, hdo⟩ := ser_one HSLN.out hdr
  rw [← HSLL2.out, HSLL.out] at hdba hdo
  subst hdba
  have HRO15 : Hid (OwnB w15 w9.heap.size (.slice ra L rc) L sl) := own_below HRO14.out hb15
  have HOW15 : Hid (OwnB w15 w2.heap.size (.slice (some ⟨g, 0, none⟩) (N + 5) gc) (N + 5) (bs ++ lMarks)) := own_below HOW14.out hb15
  have HWAS15 : Hid (OwnB w15 w4.heap.size (.slice wa (N + 5) wcp) (N + 5) (bs ++ lMarks)) := own_below HWAS14.out hb15
  have HMK15 : Hid (Marks w15 X 77 ps) := HMK14.out.below hb15
  have QE1 := same8_any dba ra L L L rc sl sl w15 HSLL.out HSLL.out (owns_seg_at hdo).1 (owns_seg_at HRO15.out).1 (by omega)
  rw [decide_eq_true (rfl : sl = sl)] at QE1
  have QE : Hid _ := QE1
  have n3 : ((er3 : Int) == (er3 : Int)) = true := by simp
  clear QE1 her3 hdo hdr hb15 QS HI14 HX14 HY14 HOW14 HWAS14 HRO14 HMK14 bel14
  go_wp2_with fail
  refine Calls.mono QE.out ?_
  rintro e w16 ⟨rfl, hb16⟩
  have bel16 := bthen bel15 hb16
  have HOW16 : Hid (OwnB w16 w2.heap.size (.slice (some ⟨g, 0, none⟩) (N + 5) gc) (N + 5) (bs ++ lMarks)) := own_below HOW15.out hb16
  have HWAS16 : Hid (OwnB w16 w4.heap.size (.slice wa (N + 5) wcp) (N + 5) (bs ++ lMarks)) := own_below HWAS15.out hb16
  have HMK16 : Hid (Marks w16 X 77 ps) := HMK15.out.below hb16
  have QA2 : Hid _ := awake_any w16 (HWID.out w16 bel16) (HDIS.out w16 bel16)
  clear hb16 QE HOW15 HWAS15 HMK15 HRO15 bel15
  go_wp2_with fail
  refine Calls.mono QA2.out ?_
  rintro e w17 ⟨rfl, hb17⟩
  have bel17 := bthen bel16 hb17
  have HOW17 : Hid (OwnB w17 w2.heap.size (.slice (some ⟨g, 0, none⟩) (N + 5) gc) (N + 5) (bs ++ lMarks)) := own_below HOW16.out hb17
  have HWAS17 : Hid (OwnB w17 w4.heap.size (.slice wa (N + 5) wcp) (N + 5) (bs ++ lMarks)) := own_below HWAS16.out hb17
  have HMK17 : Hid (Marks w17 X 77 ps) := HMK16.out.below hb17
  have QST : Hid _ := stand8_any X 77 ps w17 HMK17.out
  clear hb17 QA2 HOW16 HWAS16 HMK16 bel16
  go_wp2_with fail
  refine Calls.mono QST.out ?_
  rintro e w18 ⟨rfl, rfl⟩
  clear QST
  go_wp2_with fail
  refine Calls.mono (HSA.out w17 HOW17.out HWAS17.out) ?_
  rintro e w19 ⟨rfl, hb19⟩
  have HF : Hid (Below w.heap.size w w19) := bthen bel17 hb19
  clear hb19
  go_wp2
  go_ret
  exact ⟨rfl, HF.out⟩
end Go.Proofs.YtkhalknpfikghaaDoor
