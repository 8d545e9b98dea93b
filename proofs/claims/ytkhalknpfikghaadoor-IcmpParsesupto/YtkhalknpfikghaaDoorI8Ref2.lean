/-
  The document's own answer of layer 8: Serialise.
-/
import Derived.Test.YtkhalknpfikghaaDoorI8Ref
namespace Go.Proofs.YtkhalknpfikghaaDoor
open Go.RowKit
open I8 (M8)

theorem set_own6 {w : World} {B g N c i y : Nat} {l : List Nat} (ho : w.ownsRow B 5 1 (.slice (some ⟨g, 0, none⟩) N c) N ((toI l).map (Value.int .u8))) (hl : l.length = N) : (w.setCell ⟨g, i, none⟩ (.int .u8 (y : Int))).ownsRow B 5 1 (.slice (some ⟨g, 0, none⟩) N c) N ((toI (l.set i y)).map (Value.int .u8)) := by
  have hg := ho.2
  rcases hg with ⟨h0, _⟩ | ⟨g', cap, cur, e, hb, hh, h1, h2, h3, h4⟩
  · simp at h0
  · simp only [Value.slice.injEq, Option.some.injEq, Addr.mk.injEq, true_and, and_true] at e
    obtain ⟨rfl, rfl⟩ := e
    refine ⟨by simp [toI, hl], .inr ⟨g, c, cur.setIfInBounds i (.int .u8 (y : Int)), rfl, hb, heap_setCell_same _ _ _ _ _ _ hh, h1, h2, by simp [h3], ?_⟩⟩
    rw [Array.toList_setIfInBounds, Nat.mul_one, List.take_set]
    rw [Nat.mul_one] at h4
    rw [h4]
    simp [toI, List.map_set]
theorem own_fz6 {w : World} {B g N c : Nat} {xs : List Value} (ho : w.ownsRow B 5 1 (.slice (some ⟨g, 0, none⟩) N c) N xs) (i : Nat) : w.frozen? ⟨g, i, none⟩ = false := by
  rcases ho.2 with ⟨h0, _⟩ | ⟨g', cap, cur, e, hb, hh, _⟩
  · simp at h0
  · simp only [Value.slice.injEq, Option.some.injEq, Addr.mk.injEq, true_and, and_true] at e
    obtain ⟨rfl, rfl⟩ := e
    simp [World.frozen?, hh]
theorem set_set (m : M8) (s : Nat) (d : List Nat) : ((I8.hd m 0 ++ d).set 2 (s / 256)).set 3 (s % 256) = I8.hd m s ++ d := by
  simp [I8.hd]
/-- what the document's Serialise leaves -/
def RSer (w : World) (L : Nat) (l : List Nat) (er : Nat) (v : Value) (w' : World) : Prop :=
  (er = 0 ∧ ∃ a c, v = .slice a L c ∧ OwnB w' w.heap.size (.slice a L c) L l) ∨ (er ≠ 0 ∧ v = .slice none 0 0)
set_option maxHeartbeats 6400000 in
set_option maxRecDepth 100000 in
theorem rSer_any (V U : Int) (x y : Nat → Nat) (m : M8) (da : Option Addr) (n c : Nat) (w : World) (k : MOk w m da n c) (hx : ∀ i, i < 16 → x i < 256) (hy : ∀ i, i < 16 → y i < 256) :
    Calls Tryd.prog 15 #[.agg (ipCells V x), .agg (ipCells U y), .agg (mC m da n c)] w fun e w' => ∃ v er, e = .returned (.tuple #[v, .int .i64 (er : Nat)]) ∧ er = I8.sE m (six6 V U) ∧ Below w.heap.size w w' ∧ RSer w (8 + n) (I8.ser m (psB m.v V U x y (8 + n))) er v w' := by
  obtain ⟨i0, hi, hz0, hz1, hz2⟩ := info_parts Tryd.infoByte
  obtain ⟨A, hA⟩ : ∃ A, A = ipCells V x := ⟨_, rfl⟩
  obtain ⟨C, hC⟩ : ∃ C, C = ipCells U y := ⟨_, rfl⟩
  have hx1 := boxed_new w V x 24
  have hy1 := boxed_new (w.alloc (.cells (ipCells V x) 24)) U y 24
  rw [World.size_alloc] at hy1
  have hx2 := hx1.old ((Below.refl _ _).alloc (Nat.le_refl _) (.cells (ipCells U y) 24))
  clear hx1
  rw [← hA] at hx2 hy1 ⊢
  rw [← hC] at hx2 hy1 ⊢
  obtain ⟨M, hM⟩ : ∃ M, M = mC m da n c := ⟨_, rfl⟩
  have s2 : ((w.alloc (.cells A 24)).alloc (.cells C 24)).heap.size = w.heap.size + 1 + 1 := by simp
  have hr := mAt_new ((w.alloc (.cells A 24)).alloc (.cells C 24)) m da n c
  rw [s2, ← hM] at hr
  have b3 : Below ((w.alloc (.cells A 24)).alloc (.cells C 24)).heap.size ((w.alloc (.cells A 24)).alloc (.cells C 24)) (((w.alloc (.cells A 24)).alloc (.cells C 24)).alloc (.cells M 27)) := (Below.refl _ _).alloc (Nat.le_refl _) _
  have hx3 := hx2.old b3
  have hy3 := hy1.old b3
  have bel : Below w.heap.size w (((w.alloc (.cells A 24)).alloc (.cells C 24)).alloc (.cells M 27)) := (((Below.refl _ _).alloc (Nat.le_refl _) _).alloc (by simp) _).alloc (by simp; omega) _
  clear hx2 hy1 b3 s2
  obtain ⟨W, hW⟩ : ∃ W, W = ((w.alloc (.cells A 24)).alloc (.cells C 24)).alloc (.cells M 27) := ⟨_, rfl⟩
  rw [← hW] at hr hx3 hy3 bel
  obtain ⟨B0, hB⟩ : ∃ B, B = w.heap.size := ⟨_, rfl⟩
  have HB : Hid (w.heap.size = B0) := hB.symm
  rw [← hB] at hr hx3 hy3
  obtain ⟨O, hO⟩ : ∃ O, O = B0 + 1 + 1 := ⟨_, rfl⟩
  rw [← hO] at hr
  have HW : Hid (((w.alloc (.cells A 24)).alloc (.cells C 24)).alloc (.cells M 27) = W) := hW.symm
  have HO : Hid (B0 + 1 + 1 = O) := hO.symm
  have HR : Hid (MAt W O m da n c) := hr
  have HX : Hid (∀ i, i < 16 → x i < 256) := hx
  have HY : Hid (∀ i, i < 16 → y i < 256) := hy
  have HK : Hid (MOk w m da n c) := k
  have HXB : Hid (Boxed W B0 V x) := hx3
  have HYB : Hid (Boxed W (B0 + 1) U y) := hy3
  obtain ⟨E, hE⟩ : ∃ E, E = I8.sE m (six6 V U) := ⟨_, rfl⟩
  rw [← hE]
  have HEQ : Hid (E = if I8.chk m = 0 then psX m.v V U else I8.chk m) := by rw [hE]; exact sE_split m V U
  have QC : Hid _ := rCheck_any m da n c W k.dl
  obtain ⟨R, hR⟩ : ∃ R, R = I8.chk m := ⟨_, rfl⟩
  rw [← hR] at QC HEQ
  have HCHK : Hid (R = I8.chk m) := hR
  rw [← hM]
  clear hW hr hx3 hy3 hO hx hy hE hA hC hM hR hB k
  by_cases hz : R = 0
  case neg =>
    have b1 : ((R : Int) != 0) = true := by rw [bne_iff_ne]; omega
    rw [if_neg hz] at HEQ
    have HZ : Hid (E ≠ 0) := by rw [HEQ.out]; exact hz
    clear hz
    go_enter Tryd.func15, Tryd.ntmps15
    go_upto_region 1 with fail
    rw [HB.out, HO.out, HW.out]
    go_wp2_with (first | (refine wpList_load_m8 _ rfl O m da n c rfl HR.out rfl ?_))
    refine Calls.mono QC.out ?_
    rintro e w1 ⟨rfl, hb1⟩
    have bel1 := bthen bel hb1
    clear hb1
    go_wp2
    go_ret2
    exact ⟨_, E, (by rw [HEQ.out]; rfl), rfl, bel1, .inr ⟨HZ.out, rfl⟩⟩
  rw [if_pos hz] at HEQ
  have hc0 := I8.chk_zero m (by rw [← HCHK.out]; exact hz)
  have HV : Hid (I8.isV m.v = true) := hc0.1
  have HF : Hid (I8.okF m = true) := hc0.2.1
  have hn8 : 8 + n ≤ 65515 := by rw [← HK.out.dl]; exact hc0.2.2
  clear hc0
  subst hz
  go_enter Tryd.func15, Tryd.ntmps15
  go_upto_region 1 with fail
  rw [HB.out, HO.out, HW.out]
  go_wp2_with (first | (refine wpList_load_m8 _ rfl O m da n c rfl HR.out rfl ?_))
  refine Calls.mono QC.out ?_
  rintro e w1 ⟨rfl, hb1⟩
  have bel1 := bthen bel hb1
  have HR1 : Hid (MAt w1 O m da n c) := HR.out.below hb1
  have HX1 : Hid (Boxed w1 B0 V x) := HXB.out.old hb1
  have HY1 : Hid (Boxed w1 (B0 + 1) U y) := HYB.out.old hb1
  clear hb1 QC HR HXB HYB HW
  obtain ⟨psx, hpsx⟩ : ∃ psx, psx = psX m.v V U := ⟨_, rfl⟩
  have HPSX : Hid (psx = psX m.v V U) := hpsx
  rw [← hpsx] at HEQ
  clear hpsx
  go_upto_region 4 with fail
  go_cut [24] (fun s24 wx => s24 = .bool (decide (psx ≠ 0)) ∧ MAt wx O m da n c ∧ Boxed wx B0 V x ∧ Boxed wx (B0 + 1) U y ∧ Below w.heap.size w wx)
  case first =>
    have c0 := HR1.out.c0
    rcases ver_cases HV.out with h4 | h6
    · have e6 : (m.v == 6) = false := by rw [h4]; rfl
      have hz : psx = 0 := by rw [HPSX.out]; unfold psX; rw [if_neg (by omega)]
      clear h4
      go_wp2
      go_meet
      exact ⟨by rw [hz]; rfl, HR1.out, HX1.out, HY1.out, bel1⟩
    · have e6 : (m.v == 6) = true := by rw [h6]; rfl
      have hs : (!six6 V U) = decide (psx ≠ 0) := by
        rw [HPSX.out]
        unfold psX
        cases hh : six6 V U with
        | true => rw [if_neg (by simp)]; rfl
        | false => rw [if_pos ⟨h6, rfl⟩]; rfl
      have HS : Hid _ := hs
      clear h6 hs
      go_wp2_with (first | (refine wpList_load_ip (.tmp 3) rfl B0 V x rfl HX1.out rfl ?_) | (refine wpList_load_ip (.tmp 4) rfl (B0 + 1) U y rfl HY1.out rfl ?_))
      refine Calls.mono (six8_any V U x y _) ?_
      rintro e w2 ⟨rfl, hb2⟩
      have bel2 := bthen bel1 hb2
      have HR2 := HR1.out.below hb2
      have HX2 := HX1.out.old hb2
      have HY2 := HY1.out.old hb2
      clear hb2
      go_wp2
      go_meet
      exact ⟨by rw [← HS.out], HR2, HX2, HY2, bel2⟩
  case rest =>
  obtain ⟨rfl, r2, x2, y2, bel2⟩ := hcut
  have HR2 : Hid (MAt wc O m da n c) := r2
  have HX2 : Hid (Boxed wc B0 V x) := x2
  have HY2 : Hid (Boxed wc (B0 + 1) U y) := y2
  clear r2 x2 y2 HR1 HX1 HY1
  by_cases z : psx = 0
  case neg =>
    have hz20 : psx = 20 := by
      rw [HPSX.out] at z ⊢
      unfold psX at z ⊢
      split
      · rfl
      · rename_i hh; rw [if_neg hh] at z; exact absurd rfl z
    have HZ : Hid (E ≠ 0 ∧ E = 20) := by rw [HEQ.out, hz20]; exact ⟨by decide, rfl⟩
    have hd : decide (psx ≠ 0) = true := decide_eq_true z
    rw [hd]
    clear z hd hz20
    go_wp2
    go_ret2
    exact ⟨_, E, (by rw [HZ.out.2]; rfl), rfl, bel2, .inr ⟨HZ.out.1, rfl⟩⟩
  have hd : decide (psx ≠ 0) = false := by rw [z]; rfl
  rw [hd]
  have HPX0 : Hid (psX m.v V U = 0) := by rw [← HPSX.out]; exact z
  have HE0 : Hid (E = 0) := by rw [HEQ.out]; exact z
  clear hd z HPSX HEQ
  obtain ⟨t, cc, r, ht, hc, hr, kt, kc, kr⟩ := I8.okF_nat HF.out
  have c1 := HR2.out.c1
  have c2 := HR2.out.c2
  have c3 := HR2.out.c3
  have c4 := HR2.out.c4
  rw [ht] at c1
  rw [hc] at c2
  rw [hr] at c3
  have HHD : Hid (I8.hd m 0 = [t, cc, 0, 0, r / 16777216, r / 65536 % 256, r / 256 % 256, r % 256]) := by
    show _ = _
    unfold I8.hd
    rw [ht, hc, hr]
    simp
  have q1 : IntKind.u8.wrap (t : Int) = (t : Int) := by rw [u8_lo]; omega
  have q2 : IntKind.u8.wrap (cc : Int) = (cc : Int) := by rw [u8_lo]; omega
  have q3 : IntKind.u8.wrap ((r : Int) / 16777216) = ((r / 16777216 : Nat) : Int) := by
    rw [show (r : Int) / 16777216 = ((r / 16777216 : Nat) : Int) by omega, u8_lo]; omega
  have q4 : IntKind.u8.wrap ((r : Int) / 65536) = ((r / 65536 % 256 : Nat) : Int) := by
    rw [show (r : Int) / 65536 = ((r / 65536 : Nat) : Int) by omega, u8_lo]
  have q5 : IntKind.u8.wrap ((r : Int) / 256) = ((r / 256 % 256 : Nat) : Int) := by
    rw [show (r : Int) / 256 = ((r / 256 : Nat) : Int) by omega, u8_lo]
  have q6 : IntKind.u8.wrap (r : Int) = ((r % 256 : Nat) : Int) := u8_lo r
  obtain ⟨r1, hr1⟩ : ∃ z, z = r / 16777216 := ⟨_, rfl⟩
  obtain ⟨r2, hr2⟩ : ∃ z, z = r / 65536 % 256 := ⟨_, rfl⟩
  obtain ⟨r3, hr3⟩ : ∃ z, z = r / 256 % 256 := ⟨_, rfl⟩
  obtain ⟨r4, hr4⟩ : ∃ z, z = r % 256 := ⟨_, rfl⟩
  rw [← hr1] at q3 HHD
  rw [← hr2] at q4 HHD
  rw [← hr3] at q5 HHD
  rw [← hr4] at q6 HHD
  obtain ⟨w3, hw3⟩ : ∃ w3, w3 = wc.alloc (.cells #[.int .u8 (t : Nat), .int .u8 (cc : Nat), .int .u8 0, .int .u8 0, .int .u8 (r1 : Nat), .int .u8 (r2 : Nat), .int .u8 (r3 : Nat), .int .u8 (r4 : Nat)] 5) := ⟨_, rfl⟩
  have hb3 : Below wc.heap.size wc w3 := by rw [hw3]; exact (Below.refl _ _).alloc (Nat.le_refl _) _
  have bel3 := bthen bel2 hb3
  have HO3 : Hid (OwnB w3 w.heap.size (.slice (some ⟨wc.heap.size, 0, none⟩) 8 8) 8 (I8.hd m 0)) := by
    refine to_own (xs := (toI (I8.hd m 0)).map (Value.int .u8)) ?_ bel2.size (by simp [toI, I8.hd_len]) (by unfold maxLen; omega)
    rw [hw3, HHD.out]
    exact heap_alloc_new _ _
  have HR3 : Hid (MAt w3 O m da n c) := HR2.out.below hb3
  have HX3 : Hid (Boxed w3 B0 V x) := HX2.out.old hb3
  have HY3 : Hid (Boxed w3 (B0 + 1) U y) := HY2.out.old hb3
  have HW3 : Hid (wc.alloc (.cells #[.int .u8 (t : Nat), .int .u8 (cc : Nat), .int .u8 0, .int .u8 0, .int .u8 (r1 : Nat), .int .u8 (r2 : Nat), .int .u8 (r3 : Nat), .int .u8 (r4 : Nat)] 5) = w3) := hw3.symm
  obtain ⟨G, hG⟩ : ∃ G, G = wc.heap.size := ⟨_, rfl⟩
  have HG : Hid (wc.heap.size = G) := hG.symm
  rw [← hG] at HO3
  have hGlt : w.heap.size ≤ G := by rw [hG]; exact bel2.size
  have HBG : Hid (B0 + 1 < G ∧ O < G) := by
    refine ⟨?_, ?_⟩
    · rw [hG]; exact World.block_lt_of_cell? wc _ HY2.out.ver
    · rw [hG]; exact HR2.out.lt
  clear ht hc hr kt kc kr hr1 hr2 hr3 hr4 hw3 hb3 HR2 HX2 HY2 hG HHD
  go_upto_region 7 with fail
  rw [HG.out, HW3.out]
  clear c1 c2 c3 q1 q2 q3 q4 q5 q6 HW3 c4
  have c4 := HR3.out.c4
  have HP : Hid (∀ A, Below w.heap.size w A → Part.ok A ⟨da, c, m.d⟩) := fun A hA => ⟨(HK.out.old hA).seg, HK.out.d256, by show m.d.length ≤ c; rw [HK.out.dl]; exact HK.out.cap, HK.out.top⟩
  go_wp2_with (first | (at_builtin; refine append_split_seg rfl (.tmp 47) (.tmp 49) 25 rfl w.heap.size 5 i0 (.int .u8 0) 1 Tryd.underlying25 hi hz0 hz1 hz2 rfl (.slice (some ⟨G, 0, none⟩) 8 8) 8 ((toI (I8.hd m 0)).map (Value.int .u8)) rfl HO3.out .u8 da n c (toI m.d) rfl (by rw [toI_len]; exact HK.out.dl) (HP.out w3 bel3).1 (by unfold maxLen; omega) (by omega) bel3.size ?_))
  intro v4 w4 ho4 hq4 hg4
  have hb4 : Below w.heap.size w w4 := bel3.grown hg4 bel3.size (fun q hq => (HO3.out.lt q hq).1)
  have hch : Ch (fun q => q = G) w3 w4 := (Ch.ofGrown hg4).mono (fun q _ hq => by simp [Value.ownBlock] at hq; exact hq.symm)
  have HR4 : Hid (MAt w4 O m da n c) := HR3.out.ch hch (fun e => by have := HBG.out.2; have e' : O = G := e; omega)
  have HX4 : Hid (Boxed w4 B0 V x) := ⟨hch.cell HX3.out.ver (fun e => by have := HBG.out.1; have e' : B0 = G := e; omega), fun i hi => hch.cell (HX3.out.byte i hi) (fun e => by have := HBG.out.1; have e' : B0 = G := e; omega)⟩
  have HY4 : Hid (Boxed w4 (B0 + 1) U y) := ⟨hch.cell HY3.out.ver (fun e => by have := HBG.out.1; have e' : B0 + 1 = G := e; omega), fun i hi => hch.cell (HY3.out.byte i hi) (fun e => by have := HBG.out.1; have e' : B0 + 1 = G := e; omega)⟩
  obtain ⟨g, gc, hv4, hgc1, hgc2⟩ := own_block ho4 (by omega)
  subst hv4
  have HGQ : Hid (g = G ∨ w3.heap.size ≤ g) := by
    rcases hq4 g rfl with h | h
    · left; simp [Value.ownBlock] at h; exact h.symm
    · right; exact h
  have HO4 : Hid (OwnB w4 w.heap.size (.slice (some ⟨g, 0, none⟩) (8 + n) gc) (8 + n) (I8.hd m 0 ++ m.d)) := by
    show w4.ownsRow _ _ _ _ _ _
    rw [show (toI (I8.hd m 0 ++ m.d)).map (Value.int .u8) = (toI (I8.hd m 0)).map (Value.int .u8) ++ (toI m.d).map (Value.int .u8) by simp [toI]]
    exact ho4
  have H256 : Hid (∀ z ∈ I8.hd m 0 ++ m.d, z < 256) := by
    intro z hz
    rcases List.mem_append.1 hz with h | h
    · exact I8.hd_256 m 0 HF.out (by omega) z h
    · exact HK.out.d256 z h
  have HLL : Hid ((I8.hd m 0 ++ m.d).length = 8 + n) := by show _ = _; rw [List.length_append, I8.hd_len, HK.out.dl]
  have QP : Hid _ := rparts_any m.v V U x y (some ⟨g, 0, none⟩) (8 + n) gc (I8.hd m 0 ++ m.d) w4 HLL.out (HO4.out.part H256.out) HV.out HPX0.out (by omega) HX.out HY.out
  clear ho4 hq4 hg4 hch c4 HR3 HX3 HY3 HO3 bel3
  have c0 := HR4.out.c0
  go_wp2_with (first | (refine wpList_load_ip (.tmp 3) rfl B0 V x rfl HX4.out rfl ?_) | (refine wpList_load_ip (.tmp 4) rfl (B0 + 1) U y rfl HY4.out rfl ?_))
  refine Calls.mono QP.out ?_
  rintro e w5 ⟨X, kk, ps, rfl, hpl, hk2, hps, hall, hb5⟩
  have bel5 := bthen hb4 hb5
  have HO5 : Hid (OwnB w5 w.heap.size (.slice (some ⟨g, 0, none⟩) (8 + n) gc) (8 + n) (I8.hd m 0 ++ m.d)) := own_below HO4.out hb5
  have QG : Hid _ := rcheck_any (some ⟨X, 0, none⟩) kk kk ps w5 hpl hps (by rw [hall, List.length_append, HLL.out]; have := psB_len m.v V U x y (8 + n); omega) (by omega)
  rw [hall] at QG
  clear hps hall hpl hb5 QP HR4 HX4 HY4 HO4 c0
  go_wp2_with fail
  refine Calls.mono QG.out ?_
  rintro e w6 ⟨rfl, rfl⟩
  obtain ⟨sm, hsm⟩ : ∃ sm, sm = 65535 - S.fold (S.wv false (psB m.v V U x y (8 + n) ++ (I8.hd m 0 ++ m.d))) := ⟨_, rfl⟩
  have hsm2 : sm ≤ 65535 := by rw [hsm]; exact Nat.sub_le _ _
  rw [← hsm]
  have HSM : Hid (sm = I8.sm m (psB m.v V U x y (8 + n))) := hsm
  clear hsm QG
  have hown := HO5.out
  have hseg := (owns_seg_at hown).1
  obtain ⟨g', o', e1, hcs⟩ := seg_at hseg 2 (by rw [HLL.out]; omega)
  have e2 := Option.some.inj e1
  simp only [Addr.mk.injEq, and_true] at e2
  obtain ⟨rfl, rfl⟩ := e2
  have x2 : w5.cell? ⟨g, 2, none⟩ = some (.int .u8 (((I8.hd m 0 ++ m.d).getD 2 0 : Nat) : Int)) := by have := hcs 2 (by rw [HLL.out]; omega); simpa using this
  have x3 : w5.cell? ⟨g, 3, none⟩ = some (.int .u8 (((I8.hd m 0 ++ m.d).getD 3 0 : Nat) : Int)) := by have := hcs 3 (by rw [HLL.out]; omega); simpa using this
  have f2 := own_fz6 hown 2
  have f3 := own_fz6 hown 3
  have o1 := set_own6 (i := 2) (y := sm / 256) hown HLL.out
  have o2 := set_own6 (i := 3) (y := sm % 256) o1 (by rw [List.length_set]; exact HLL.out)
  rw [set_set, HSM.out, show I8.hd m (I8.sm m (psB m.v V U x y (8 + n))) ++ m.d = I8.ser m (psB m.v V U x y (8 + n)) from rfl, ← HSM.out] at o2
  have HO6 : Hid (OwnB ((w5.setCell ⟨g, 2, none⟩ (.int .u8 ((sm / 256 : Nat) : Int))).setCell ⟨g, 3, none⟩ (.int .u8 ((sm % 256 : Nat) : Int))) w.heap.size (.slice (some ⟨g, 0, none⟩) (8 + n) gc) (8 + n) (I8.ser m (psB m.v V U x y (8 + n)))) := o2
  have hgw : w.heap.size ≤ g := (hown.lt g rfl).1
  have chs : Ch (fun q => q = g) w5 ((w5.setCell ⟨g, 2, none⟩ (.int .u8 ((sm / 256 : Nat) : Int))).setCell ⟨g, 3, none⟩ (.int .u8 ((sm % 256 : Nat) : Int))) := by
    have c1 : Ch (fun q => q = g) w5 (w5.setCell ⟨g, 2, none⟩ (.int .u8 ((sm / 256 : Nat) : Int))) := (Ch.refl (fun q => q = g) w5).set _ _ rfl
    exact c1.set _ _ rfl
  have HF6 : Hid (Below w.heap.size w ((w5.setCell ⟨g, 2, none⟩ (.int .u8 ((sm / 256 : Nat) : Int))).setCell ⟨g, 3, none⟩ (.int .u8 ((sm % 256 : Nat) : Int)))) := bel5.trans (chs.below (fun q e => by have e' : q = g := e; omega) bel5.size)
  have u1 : IntKind.u8.wrap ((sm : Int) / 256) = ((sm / 256 : Nat) : Int) := u8_hi sm hsm2
  have u2 : IntKind.u8.wrap ((sm : Int) % 256) = ((sm % 256 : Nat) : Int) := by
    rw [show (sm : Int) % 256 = ((sm % 256 : Nat) : Int) by omega, u8_lo]; omega
  obtain ⟨s1, hs1⟩ : ∃ z, z = sm / 256 := ⟨_, rfl⟩
  obtain ⟨s2, hs2⟩ : ∃ z, z = sm % 256 := ⟨_, rfl⟩
  rw [← hs1] at u1 HO6 HF6
  rw [← hs2] at u2 HO6 HF6
  have d1 : Int.tdiv (sm : Int) 256 = (sm : Int) / 256 := Int.tdiv_eq_ediv_of_nonneg (by omega)
  have d2 : Int.tmod (sm : Int) 256 = (sm : Int) % 256 := Int.tmod_eq_emod_of_nonneg (by omega)
  clear hcs hseg hown o1 o2 chs hs1 hs2 e1 hb4 HO5
  go_wp2
  go_ret2
  exact ⟨_, E, (by rw [HE0.out]; rfl), rfl, HF6.out, .inl ⟨HE0.out, some ⟨g, 0, none⟩, gc, rfl, HO6.out⟩⟩
end Go.Proofs.YtkhalknpfikghaaDoor
