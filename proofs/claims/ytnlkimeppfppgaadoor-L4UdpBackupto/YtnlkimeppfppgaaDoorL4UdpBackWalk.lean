/-
  The walk of L4UdpBack: what is written is read as it was.
-/
import Derived.Test.YtnlkimeppfppgaaDoorL9St1
namespace Go.Proofs.YtnlkimeppfppgaaDoor
open Go.RowKit
open L4 (U9 T9)

theorem u_bytes {w : World} {B g L : Nat} {bs : List Nat} (h : OwnB w B (.slice (some ⟨g, 0, none⟩) L L) L bs) (i : Nat) (hi : i < bs.length) : w.cell? ⟨g, i, none⟩ = some (.int .u8 ((bs.getD i 0 : Nat) : Int)) := by
  rcases (owns_seg_at h).1 with h0 | ⟨b, off, e, hc⟩
  · have : bs = [] := by simpa [toI] using h0
    rw [this] at hi
    simp at hi
  · have e2 := Option.some.inj e
    simp only [Addr.mk.injEq] at e2
    obtain ⟨rfl, rfl, _⟩ := e2
    have := hc i (by simpa [toI] using hi)
    rw [Nat.zero_add] at this
    rw [this]
    simp [toI, List.getD, hi]
set_option maxHeartbeats 6400000 in
set_option maxRecDepth 100000 in
theorem l4UdpBack.walk (w : World) (hT : Tabs w) (V : Int) (x : Nat → Nat) (hx : ∀ i, i < 16 → x i < 256) (U : Int) (y : Nat → Nat) (hy : ∀ i, i < 16 → y i < 256) (u : U9) (da : Option Addr) (n c : Nat) (k : DOk w u.d da n c) :
    Calls Tryd.prog 3 #[.agg (ipCells V x), .agg (ipCells U y), .agg (uC u da n c)] w fun e w' => e = .returned (.bool true) ∧ Below w.heap.size w w' := by
  obtain ⟨A, hA⟩ : ∃ A, A = ipCells V x := ⟨_, rfl⟩
  obtain ⟨C, hC⟩ : ∃ C, C = ipCells U y := ⟨_, rfl⟩
  have hx1 := boxed_new w V x 24
  have hy1 := boxed_new (w.alloc (.cells (ipCells V x) 24)) U y 24
  rw [World.size_alloc] at hy1
  have hx2 := hx1.old ((Below.refl _ _).alloc (Nat.le_refl _) (.cells (ipCells U y) 24))
  clear hx1
  rw [← hA] at hx2 hy1 ⊢
  rw [← hC] at hx2 hy1 ⊢
  obtain ⟨M, hM⟩ : ∃ M, M = uC u da n c := ⟨_, rfl⟩
  have s2 : ((w.alloc (.cells A 24)).alloc (.cells C 24)).heap.size = w.heap.size + 1 + 1 := by simp
  have hr := uAt_new ((w.alloc (.cells A 24)).alloc (.cells C 24)) u da n c
  rw [s2, ← hM] at hr
  have b3 : Below ((w.alloc (.cells A 24)).alloc (.cells C 24)).heap.size ((w.alloc (.cells A 24)).alloc (.cells C 24)) (((w.alloc (.cells A 24)).alloc (.cells C 24)).alloc (.cells M 27)) := (Below.refl _ _).alloc (Nat.le_refl _) _
  have hx3 := hx2.old b3
  have hy3 := hy1.old b3
  have bel : Below w.heap.size w (((w.alloc (.cells A 24)).alloc (.cells C 24)).alloc (.cells M 27)) := (((Below.refl _ _).alloc (Nat.le_refl _) _).alloc (by simp) _).alloc (by simp; omega) _
  clear hx2 hy1 b3 s2
  obtain ⟨W, hW⟩ : ∃ W, W = ((w.alloc (.cells A 24)).alloc (.cells C 24)).alloc (.cells M 27) := ⟨_, rfl⟩
  rw [← hW] at hr hx3 hy3 bel
  obtain ⟨B, hB⟩ : ∃ B, B = w.heap.size := ⟨_, rfl⟩
  have HB : Hid (w.heap.size = B) := hB.symm
  rw [← hB] at hr hx3 hy3
  obtain ⟨O, hO⟩ : ∃ O, O = B + 1 + 1 := ⟨_, rfl⟩
  rw [← hO] at hr
  have HW : Hid (((w.alloc (.cells A 24)).alloc (.cells C 24)).alloc (.cells M 27) = W) := hW.symm
  have HO : Hid (B + 1 + 1 = O) := hO.symm
  have HR : Hid (UAt W O u da n c) := hr
  have HX : Hid (∀ i, i < 16 → x i < 256) := hx
  have HY : Hid (∀ i, i < 16 → y i < 256) := hy
  have HXB : Hid (Boxed W B V x) := hx3
  have HYB : Hid (Boxed W (B + 1) U y) := hy3
  rw [← hM]
  clear hW hr hx3 hy3 hO hx hy hA hC hM hB
  have HK : Hid (DOk w u.d da n c) := k
  have HT : Hid (∀ A, Below w.heap.size w A → Tabs A) := fun A hA => hT.old hA
  have QS : Hid _ := started_any W (HT.out W bel)
  clear k hT
  go_enter Tryd.func3, Tryd.ntmps3
  go_upto_region 1 with fail
  rw [HB.out, HO.out, HW.out]
  go_wp2_with fail
  refine Calls.mono QS.out ?_
  rintro e w1 ⟨rfl, hb1⟩
  have bel1 := bthen bel hb1
  have HX1 : Hid (Boxed w1 B V x) := HXB.out.old hb1
  have HY1 : Hid (Boxed w1 (B + 1) U y) := HYB.out.old hb1
  have HR1 : Hid (UAt w1 O u da n c) := HR.out.below hb1
  have QP : Hid _ := putU_any V U x y u da n c w1 (HT.out w1 bel1).u (HK.out.old bel1) HX.out HY.out
  clear QS hb1 HXB HYB HR HW
  go_wp2_with (first | (refine wpList_load_ip (.tmp 3) rfl B V x rfl HX1.out rfl ?_) | (refine wpList_load_ip (.tmp 4) rfl (B + 1) U y rfl HY1.out rfl ?_) | (refine wpList_load_u9 (.tmp 5) rfl O u da n c rfl HR1.out rfl ?_))
  refine Calls.mono QP.out ?_
  rintro e w2 ⟨v, er, rfl, her, hb2, hr2⟩
  have bel2 := bthen bel1 hb2
  have HX2 : Hid (Boxed w2 B V x) := HX1.out.old hb2
  have HY2 : Hid (Boxed w2 (B + 1) U y) := HY1.out.old hb2
  have HR2 : Hid (UAt w2 O u da n c) := UAt.below HR1.out hb2
  clear HX1 HY1 HR1 
  clear QP hb2
  by_cases hz : er = 0
  case neg =>
    obtain rfl : v = .slice none 0 0 := by
      rcases hr2 with ⟨h, _⟩ | ⟨_, h⟩
      · exact absurd h hz
      · exact h
    have b1 : ((er : Int) != 0) = true := by rw [bne_iff_ne]; omega
    clear hr2 her hz
    go_wp2_with fail
    refine Calls.mono (num9_any (er : Int) _) ?_
    rintro e wn ⟨rfl, rfl⟩
    go_wp2
    go_ret
    exact ⟨rfl, bel2⟩
  subst hz
  have hok : psOk V U x y = true ∧ L4.uChk V u = 0 := by
    have h := her.symm
    unfold L4.uPutE at h
    cases hp : psOk V U x y with
    | true => rw [hp, if_pos rfl] at h; exact ⟨rfl, h⟩
    | false => rw [hp] at h; cases h
  obtain ⟨hps, hck⟩ := hok
  obtain ⟨L, hL⟩ : ∃ L, L = 8 + n := ⟨_, rfl⟩
  have hz0 := L4.uChk_zero hck
  have L65 : L ≤ 65535 := by have := hz0.2.2.2.2; rw [HK.out.dl] at this; omega
  have L8 : 8 ≤ L := by omega
  obtain ⟨pb, hpb⟩ : ∃ pb, pb = psL V U x y 17 (L : Nat) := ⟨_, rfl⟩
  obtain ⟨bs, hbs⟩ : ∃ bs, bs = L4.uSer u pb := ⟨_, rfl⟩
  obtain ⟨g, rfl, ho2⟩ : ∃ g, v = .slice (some ⟨g, 0, none⟩) L L ∧ OwnB w2 w1.heap.size (.slice (some ⟨g, 0, none⟩) L L) L bs := by
    rcases hr2 with ⟨_, g, h1, h2⟩ | ⟨h1, _⟩
    · rw [← hL] at h1 h2
      rw [← hpb, ← hbs] at h2
      exact ⟨g, h1, h2⟩
    · exact absurd rfl h1
  have hbl : bs.length = L := by rw [hbs, L4.uSer_len, HK.out.dl, hL]
  have hb256 : ∀ z ∈ bs, z < 256 := by rw [hbs]; exact L4.uSer_256 u pb hck HK.out.d256
  have hpe : pb.length % 2 = 0 := by rw [hpb]; exact psL_even _ _ _ _ _ _
  have hun : L4.uN bs = L := by rw [hbs, L4.uN_ser, HK.out.dl, hL]
  have hpu : L4.uP bs = u := by rw [hbs]; exact L4.uP_ser u pb hck
  have hue : L4.uPE V true pb bs = 0 := by rw [hbs]; exact L4.uPE_ser u pb hpe hck
  have HS67 : Hid (bs.getD 6 0 = L4.uSum u pb / 256 ∧ bs.getD 7 0 = L4.uSum u pb % 256) := by rw [hbs]; exact ⟨L4.uSer_at u pb 6 _ rfl, L4.uSer_at u pb 7 _ rfl⟩
  have HSZ : Hid _ := L4.uSum_zero u pb
  have HGOOD : Hid (u.ns = false → S.fold (S.wv false (pb ++ bs)) = 65535) := fun h => by rw [hbs]; exact L4.uSer_good u pb hpe h
  have HP256 : Hid (∀ z ∈ pb, z < 256) := by rw [hpb]; exact psL_256 V U x y 17 (L : Nat) HX.out HY.out
  have HP40 : Hid (pb.length ≤ 40) := by rw [hpb]; exact psL_len _ _ _ _ _ _
  have HCHK : Hid (L4.uChk V u = 0) := hck
  have HPS : Hid (psOk V U x y = true) := hps
  have HBL : Hid (bs.length = L) := hbl
  have HB256 : Hid (∀ z ∈ bs, z < 256) := hb256
  have HOB2 : Hid (OwnB w2 w1.heap.size (.slice (some ⟨g, 0, none⟩) L L) L bs) := ho2
  have d2 : DOk w2 bs (some ⟨g, 0, none⟩) L L := ⟨hbl, (owns_seg_at ho2).1, hb256, by omega, by omega, by omega⟩
  have QU := parseU_any V U x y (some ⟨g, 0, none⟩) L L bs w2 (HT.out w2 bel2).u d2 HX.out HY.out
  rw [hun, hps, ← hpb, hue] at QU
  have HQU : Hid _ := QU
  have HSG2 : Hid (Seg .u8 w2 (some ⟨g, 0, none⟩) (toI bs)) := d2.seg
  have HDR : Hid ((bs.drop 8).take n = u.d) := by
    show _ = _
    have := congrArg U9.d hpu
    simp only [L4.uP, hun] at this
    rw [← this, hL, Nat.add_sub_cancel_left]
  have HPU : Hid (puC 0 (some ⟨g, 0, none⟩) bs = uC u (cutA (some ⟨g, 0, none⟩) 8 n) n n) := by
    show _ = _
    unfold puC
    rw [if_pos rfl, hpu, hun, hL, Nat.add_sub_cancel_left]
  have HL : Hid (L = 8 + n) := hL
  have HPBE : Hid (pb = psL V U x y 17 (L : Nat)) := hpb
  clear hr2 her hz0 hbl hb256 hpe hun hpu hue hbs hpb hps hck ho2 d2 QU hL
  go_wp2_with fail
  refine Calls.mono (num9_any 0 _) ?_
  rintro e wn ⟨rfl, rfl⟩
  go_wp2_with (first | (refine wpList_load_ip (.tmp 3) rfl B V x rfl HX2.out rfl ?_) | (refine wpList_load_ip (.tmp 4) rfl (B + 1) U y rfl HY2.out rfl ?_) | (refine wpList_load_u9 (.tmp 5) rfl O u da n c rfl HR2.out rfl ?_))
  refine Calls.mono HQU.out ?_
  rintro e w6 ⟨er, rfl, hb6, her⟩
  subst her
  rw [HPU.out]
  obtain ⟨dv, hdv⟩ : ∃ dv, dv = cutA (some ⟨g, 0, none⟩) 8 n := ⟨_, rfl⟩
  have sdv : Seg .u8 w6 dv (toI u.d) := by
    have h := (Seg.old HSG2.out hb6).cut 8 n (by rw [toI_len, HBL.out, HL.out]; omega)
    rw [toI_drop, toI_take, HDR.out, ← hdv] at h
    exact h
  rw [← hdv]
  have HDV6 : Hid (DOk w6 u.d dv n n) := ⟨HK.out.dl, sdv, HK.out.d256, Nat.le_refl _, by have := HK.out.sm; omega, HK.out.sm⟩
  have bel6 := bthen bel2 hb6
  have HX6 : Hid (Boxed w6 B V x) := HX2.out.old hb6
  have HY6 : Hid (Boxed w6 (B + 1) U y) := HY2.out.old hb6
  have HR6 : Hid (UAt w6 O u da n c) := UAt.below HR2.out hb6
  have HOB6 : Hid (OwnB w6 w1.heap.size (.slice (some ⟨g, 0, none⟩) L L) L bs) := own_below HOB2.out hb6
  clear HX2 HY2 HR2 HOB2
  clear HQU hb6 HPU sdv hdv HSG2 HDR
  have hl6 : Below w6.heap.size w6 (w6.alloc (.cells (uC u dv n n) 27)) := (Below.refl _ _).alloc (Nat.le_refl _) _
  have un6 := uAt_new w6 u dv n n
  obtain ⟨w7, hw7⟩ : ∃ w7, w7 = w6.alloc (.cells (uC u dv n n) 27) := ⟨_, rfl⟩
  rw [← hw7] at hl6 un6
  have HW7 : Hid (w6.alloc (.cells #[.int .i64 u.sp, .int .i64 u.dp, .bool u.ns, .slice dv n n] 27) = w7) := hw7.symm
  obtain ⟨V6, hV6⟩ : ∃ V6, V6 = w6.heap.size := ⟨_, rfl⟩
  rw [← hV6] at un6
  have HUV7 : Hid (UAt w7 V6 u dv n n) := un6
  have HVs : Hid (w6.heap.size = V6) := hV6.symm
  have bel7 := bthen bel6 hl6
  have HX7 : Hid (Boxed w7 B V x) := HX6.out.old hl6
  have HY7 : Hid (Boxed w7 (B + 1) U y) := HY6.out.old hl6
  have HR7 : Hid (UAt w7 O u da n c) := UAt.below HR6.out hl6
  have HOB7 : Hid (OwnB w7 w1.heap.size (.slice (some ⟨g, 0, none⟩) L L) L bs) := own_below HOB6.out hl6
  have HDV7 : Hid (DOk w7 u.d dv n n) := HDV6.out.old hl6
  clear HX6 HY6 HR6 HOB6 HDV6
  clear hl6 un6 hw7 hV6
  rw [show uC u dv n n = #[.int .i64 u.sp, .int .i64 u.dp, .bool u.ns, .slice dv n n] from rfl]
  go_upto_region 8 with fail
  rw [HVs.out, HW7.out]
  clear HVs HW7
  have QD := pseudo_any V U x y 17 (L : Nat) w7
  rw [psE_ok HPS.out (by simp [psIn]; omega), ← HPBE.out] at QD
  have HQD : Hid _ := QD
  clear QD
  go_wp2_with (first | (refine wpList_load_ip (.tmp 3) rfl B V x rfl HX7.out rfl ?_) | (refine wpList_load_ip (.tmp 4) rfl (B + 1) U y rfl HY7.out rfl ?_) | (refine wpList_load_u9 (.tmp 5) rfl O u da n c rfl HR7.out rfl ?_))
  refine Calls.mono HQD.out ?_
  rintro e w8 ⟨v, rfl, ho8, _, hb8⟩
  obtain ⟨pa, pcp, hpv⟩ := owns_shape ho8
  subst hpv
  have HPB8 : Hid (OwnB w8 w7.heap.size (.slice pa pb.length pcp) pb.length pb) := ho8
  have bel8 := bthen bel7 hb8
  have HX8 : Hid (Boxed w8 B V x) := HX7.out.old hb8
  have HY8 : Hid (Boxed w8 (B + 1) U y) := HY7.out.old hb8
  have HR8 : Hid (UAt w8 O u da n c) := UAt.below HR7.out hb8
  have HOB8 : Hid (OwnB w8 w1.heap.size (.slice (some ⟨g, 0, none⟩) L L) L bs) := own_below HOB7.out hb8
  have HUV8 : Hid (UAt w8 V6 u dv n n) := UAt.below HUV7.out hb8
  have HDV8 : Hid (DOk w8 u.d dv n n) := HDV7.out.old hb8
  clear HX7 HY7 HR7 HOB7 HUV7 HDV7
  clear HQD hb8 ho8
  have q6 : w8.cell? ⟨g, 6, none⟩ = some (.int .u8 ((bs.getD 6 0 : Nat) : Int)) := u_bytes HOB8.out 6 (by rw [HBL.out]; omega)
  have q7 : w8.cell? ⟨g, 7, none⟩ = some (.int .u8 ((bs.getD 7 0 : Nat) : Int)) := u_bytes HOB8.out 7 (by rw [HBL.out]; omega)
  rw [HS67.out.1] at q6
  rw [HS67.out.2] at q7
  obtain ⟨sm, hsm⟩ : ∃ sm, sm = L4.uSum u pb := ⟨_, rfl⟩
  rw [← hsm] at q6 q7 HSZ
  obtain ⟨s1, hs1⟩ : ∃ s1, s1 = sm / 256 := ⟨_, rfl⟩
  obtain ⟨s2, hs2⟩ : ∃ s2, s2 = sm % 256 := ⟨_, rfl⟩
  rw [← hs1] at q6
  rw [← hs2] at q7
  have w8n : IntKind.i64.wrap (8 + (n : Int)) = 8 + (n : Int) := by have := HL.out; rw [IntKind.wrap_i64]; omega
  have eL : ((L : Int) == 8 + (n : Int)) = true := by rw [beq_iff_eq]; have := HL.out; omega
  clear hsm HS67
  cases hns : u.ns with
  | true =>
    have h0 : sm = 0 := HSZ.out.2 hns
    have e1 : s1 = 0 := by rw [hs1, h0]
    have e2 : s2 = 0 := by rw [hs2, h0]
    subst e1 e2
    clear hs1 hs2 h0
    go_upto_region 10 with fail
    clear q6 q7
    go_wp2_with fail
    refine Calls.mono (num9_any 0 _) ?_
    rintro e wn ⟨rfl, rfl⟩
    go_wp2_with fail
    refine Calls.mono (num9_any 0 _) ?_
    rintro e wn ⟨rfl, rfl⟩
    have QS : Hid _ := sameU_true u da dv n c n w8 (HK.out.old bel8) HDV8.out
    go_wp2_with (first | (refine wpList_load_ip (.tmp 3) rfl B V x rfl HX8.out rfl ?_) | (refine wpList_load_ip (.tmp 4) rfl (B + 1) U y rfl HY8.out rfl ?_) | (refine wpList_load_u9 (.tmp 5) rfl O u da n c rfl HR8.out rfl ?_) | (refine wpList_load_u9 (.tmp 10) rfl V6 u dv n n rfl HUV8.out rfl ?_))
    refine Calls.mono QS.out ?_
    rintro e w9 ⟨rfl, hb9⟩
    have bel9 := bthen bel8 hb9
    have HX9 : Hid (Boxed w9 B V x) := HX8.out.old hb9
    have HY9 : Hid (Boxed w9 (B + 1) U y) := HY8.out.old hb9
    have HR9 : Hid (UAt w9 O u da n c) := UAt.below HR8.out hb9
    have HOB9 : Hid (OwnB w9 w1.heap.size (.slice (some ⟨g, 0, none⟩) L L) L bs) := own_below HOB8.out hb9
    have HPB9 : Hid (OwnB w9 w7.heap.size (.slice pa pb.length pcp) pb.length pb) := own_below HPB8.out hb9
    clear HX8 HY8 HR8 HOB8 HPB8
    clear QS hb9
    have c2 := HR9.out.c2
    rw [hns] at c2
    have c3 := HR9.out.c3
    have hver := HX9.out.ver
    have QC : Hid _ := chkU_any V u da n c w9 HK.out.dl HK.out.sm
    rw [HCHK.out] at QC
    go_wp2_with (first | (refine wpList_load_ip (.tmp 3) rfl B V x rfl HX9.out rfl ?_) | (refine wpList_load_ip (.tmp 4) rfl (B + 1) U y rfl HY9.out rfl ?_) | (refine wpList_load_u9 (.tmp 5) rfl O u da n c rfl HR9.out rfl ?_))
    refine Calls.mono QC.out ?_
    rintro e w11 ⟨rfl, hb11⟩
    have HFIN : Hid (Below w.heap.size w w11) := bthen bel9 hb11
    clear hb11 QC c2 c3 hver
    go_wp2_with fail
    refine Calls.mono (num9_any 0 _) ?_
    rintro e wn ⟨rfl, rfl⟩
    go_wp2
    go_ret
    exact ⟨rfl, HFIN.out⟩
  | false =>
    have h0 : sm ≠ 0 := fun h => by have := HSZ.out.1 h; rw [hns] at this; cases this
    by_cases e1 : s1 = 0
    · have e2 : ((s2 : Int) == 0) = false := by rw [beq_eq_false_iff_ne]; omega
      have e3 : ((s1 : Int) == 0) = true := by rw [beq_iff_eq]; omega
      clear hs1 hs2 h0 e1
      go_upto_region 10 with fail
      clear q6 q7
      go_wp2_with fail
      refine Calls.mono (num9_any 0 _) ?_
      rintro e wn ⟨rfl, rfl⟩
      go_wp2_with fail
      refine Calls.mono (num9_any 0 _) ?_
      rintro e wn ⟨rfl, rfl⟩
      have QS : Hid _ := sameU_true u da dv n c n w8 (HK.out.old bel8) HDV8.out
      go_wp2_with (first | (refine wpList_load_ip (.tmp 3) rfl B V x rfl HX8.out rfl ?_) | (refine wpList_load_ip (.tmp 4) rfl (B + 1) U y rfl HY8.out rfl ?_) | (refine wpList_load_u9 (.tmp 5) rfl O u da n c rfl HR8.out rfl ?_) | (refine wpList_load_u9 (.tmp 10) rfl V6 u dv n n rfl HUV8.out rfl ?_))
      refine Calls.mono QS.out ?_
      rintro e w9 ⟨rfl, hb9⟩
      have bel9 := bthen bel8 hb9
      have HX9 : Hid (Boxed w9 B V x) := HX8.out.old hb9
      have HY9 : Hid (Boxed w9 (B + 1) U y) := HY8.out.old hb9
      have HR9 : Hid (UAt w9 O u da n c) := UAt.below HR8.out hb9
      have HOB9 : Hid (OwnB w9 w1.heap.size (.slice (some ⟨g, 0, none⟩) L L) L bs) := own_below HOB8.out hb9
      have HPB9 : Hid (OwnB w9 w7.heap.size (.slice pa pb.length pcp) pb.length pb) := own_below HPB8.out hb9
      clear HX8 HY8 HR8 HOB8 HPB8
      clear QS hb9
      have c2 := HR9.out.c2
      rw [hns] at c2
      have c3 := HR9.out.c3
      have hver := HX9.out.ver
      have QG : Hid _ := good_two w9 w9.heap.size pa (some ⟨g, 0, none⟩) pb.length L pcp L pb bs rfl rfl HBL.out (OwnB.part HPB9.out HP256.out) (OwnB.part HOB9.out HB256.out) (by have := HP40.out; omega)
      rw [decide_eq_true (HGOOD.out hns)] at QG
      obtain ⟨pl, hpl⟩ : ∃ pl, pl = pb.length := ⟨_, rfl⟩
      rw [← hpl] at QG ⊢
      clear hpl
      go_wp2_with fail
      refine Calls.mono QG.out ?_
      rintro e w10 ⟨rfl, hb10⟩
      clear c2 c3 hver
      have bel10 := bthen bel9 hb10
      have HX10 : Hid (Boxed w10 B V x) := HX9.out.old hb10
      have HY10 : Hid (Boxed w10 (B + 1) U y) := HY9.out.old hb10
      have HR10 : Hid (UAt w10 O u da n c) := UAt.below HR9.out hb10
      clear HX9 HY9 HR9 
      clear QG hb10
      have c3 := HR10.out.c3
      have hver := HX10.out.ver
      have QC : Hid _ := chkU_any V u da n c w10 HK.out.dl HK.out.sm
      rw [HCHK.out] at QC
      go_wp2_with (first | (refine wpList_load_ip (.tmp 3) rfl B V x rfl HX10.out rfl ?_) | (refine wpList_load_ip (.tmp 4) rfl (B + 1) U y rfl HY10.out rfl ?_) | (refine wpList_load_u9 (.tmp 5) rfl O u da n c rfl HR10.out rfl ?_))
      refine Calls.mono QC.out ?_
      rintro e w11 ⟨rfl, hb11⟩
      have HFIN : Hid (Below w.heap.size w w11) := bthen bel10 hb11
      clear hb11 QC c3 hver
      go_wp2_with fail
      refine Calls.mono (num9_any 0 _) ?_
      rintro e wn ⟨rfl, rfl⟩
      go_wp2
      go_ret
      exact ⟨rfl, HFIN.out⟩
    · have e3 : ((s1 : Int) == 0) = false := by rw [beq_eq_false_iff_ne]; omega
      clear hs1 hs2 h0 e1
      go_upto_region 10 with fail
      clear q6 q7
      go_wp2_with fail
      refine Calls.mono (num9_any 0 _) ?_
      rintro e wn ⟨rfl, rfl⟩
      go_wp2_with fail
      refine Calls.mono (num9_any 0 _) ?_
      rintro e wn ⟨rfl, rfl⟩
      have QS : Hid _ := sameU_true u da dv n c n w8 (HK.out.old bel8) HDV8.out
      go_wp2_with (first | (refine wpList_load_ip (.tmp 3) rfl B V x rfl HX8.out rfl ?_) | (refine wpList_load_ip (.tmp 4) rfl (B + 1) U y rfl HY8.out rfl ?_) | (refine wpList_load_u9 (.tmp 5) rfl O u da n c rfl HR8.out rfl ?_) | (refine wpList_load_u9 (.tmp 10) rfl V6 u dv n n rfl HUV8.out rfl ?_))
      refine Calls.mono QS.out ?_
      rintro e w9 ⟨rfl, hb9⟩
      have bel9 := bthen bel8 hb9
      have HX9 : Hid (Boxed w9 B V x) := HX8.out.old hb9
      have HY9 : Hid (Boxed w9 (B + 1) U y) := HY8.out.old hb9
      have HR9 : Hid (UAt w9 O u da n c) := UAt.below HR8.out hb9
      have HOB9 : Hid (OwnB w9 w1.heap.size (.slice (some ⟨g, 0, none⟩) L L) L bs) := own_below HOB8.out hb9
      have HPB9 : Hid (OwnB w9 w7.heap.size (.slice pa pb.length pcp) pb.length pb) := own_below HPB8.out hb9
      clear HX8 HY8 HR8 HOB8 HPB8
      clear QS hb9
      have c2 := HR9.out.c2
      rw [hns] at c2
      have c3 := HR9.out.c3
      have hver := HX9.out.ver
      have QG : Hid _ := good_two w9 w9.heap.size pa (some ⟨g, 0, none⟩) pb.length L pcp L pb bs rfl rfl HBL.out (OwnB.part HPB9.out HP256.out) (OwnB.part HOB9.out HB256.out) (by have := HP40.out; omega)
      rw [decide_eq_true (HGOOD.out hns)] at QG
      obtain ⟨pl, hpl⟩ : ∃ pl, pl = pb.length := ⟨_, rfl⟩
      rw [← hpl] at QG ⊢
      clear hpl
      go_wp2_with fail
      refine Calls.mono QG.out ?_
      rintro e w10 ⟨rfl, hb10⟩
      clear c2 c3 hver
      have bel10 := bthen bel9 hb10
      have HX10 : Hid (Boxed w10 B V x) := HX9.out.old hb10
      have HY10 : Hid (Boxed w10 (B + 1) U y) := HY9.out.old hb10
      have HR10 : Hid (UAt w10 O u da n c) := UAt.below HR9.out hb10
      clear HX9 HY9 HR9 
      clear QG hb10
      have c3 := HR10.out.c3
      have hver := HX10.out.ver
      have QC : Hid _ := chkU_any V u da n c w10 HK.out.dl HK.out.sm
      rw [HCHK.out] at QC
      go_wp2_with (first | (refine wpList_load_ip (.tmp 3) rfl B V x rfl HX10.out rfl ?_) | (refine wpList_load_ip (.tmp 4) rfl (B + 1) U y rfl HY10.out rfl ?_) | (refine wpList_load_u9 (.tmp 5) rfl O u da n c rfl HR10.out rfl ?_))
      refine Calls.mono QC.out ?_
      rintro e w11 ⟨rfl, hb11⟩
      have HFIN : Hid (Below w.heap.size w w11) := bthen bel10 hb11
      clear hb11 QC c3 hver
      go_wp2_with fail
      refine Calls.mono (num9_any 0 _) ?_
      rintro e wn ⟨rfl, rfl⟩
      go_wp2
      go_ret
      exact ⟨rfl, HFIN.out⟩
end Go.Proofs.YtnlkimeppfppgaaDoor
