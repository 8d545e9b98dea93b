/-
  The walk of L4TcpBack: what is written is read as it was.
-/
import Derived.Test.YtnlkimeppfppgaaDoorL9St1
namespace Go.Proofs.YtnlkimeppfppgaaDoor
open Go.RowKit
open L4 (U9 T9)

set_option maxHeartbeats 6400000 in
set_option maxRecDepth 100000 in
theorem l4TcpBack.walk (w : World) (hT : Tabs w) (V : Int) (x : Nat → Nat) (hx : ∀ i, i < 16 → x i < 256) (U : Int) (y : Nat → Nat) (hy : ∀ i, i < 16 → y i < 256) (t : T9) (la : Option Addr) (ln lc : Nat) (os : List OpV) (da : Option Addr) (n c : Nat) (k : TOk w t la ln os da n c) (_ : ln ≤ 1048576 ∧ (∀ o ∈ os, o.d.length ≤ 1048576) ∧ n ≤ 1048576) :
    Calls Tryd.prog 4 #[.agg (ipCells V x), .agg (ipCells U y), .agg (tC t la ln lc da n c)] w fun e w' => e = .returned (.bool true) ∧ Below w.heap.size w w' := by
  obtain ⟨A, hA⟩ : ∃ A, A = ipCells V x := ⟨_, rfl⟩
  obtain ⟨C, hC⟩ : ∃ C, C = ipCells U y := ⟨_, rfl⟩
  have hx1 := boxed_new w V x 24
  have hy1 := boxed_new (w.alloc (.cells (ipCells V x) 24)) U y 24
  rw [World.size_alloc] at hy1
  have hx2 := hx1.old ((Below.refl _ _).alloc (Nat.le_refl _) (.cells (ipCells U y) 24))
  clear hx1
  rw [← hA] at hx2 hy1 ⊢
  rw [← hC] at hx2 hy1 ⊢
  obtain ⟨M, hM⟩ : ∃ M, M = tC t la ln lc da n c := ⟨_, rfl⟩
  have s2 : ((w.alloc (.cells A 24)).alloc (.cells C 24)).heap.size = w.heap.size + 1 + 1 := by simp
  have hr := tAt_new ((w.alloc (.cells A 24)).alloc (.cells C 24)) t la ln lc da n c
  rw [s2, ← hM] at hr
  have b3 : Below ((w.alloc (.cells A 24)).alloc (.cells C 24)).heap.size ((w.alloc (.cells A 24)).alloc (.cells C 24)) (((w.alloc (.cells A 24)).alloc (.cells C 24)).alloc (.cells M 42)) := (Below.refl _ _).alloc (Nat.le_refl _) _
  have hx3 := hx2.old b3
  have hy3 := hy1.old b3
  have bel : Below w.heap.size w (((w.alloc (.cells A 24)).alloc (.cells C 24)).alloc (.cells M 42)) := (((Below.refl _ _).alloc (Nat.le_refl _) _).alloc (by simp) _).alloc (by simp; omega) _
  clear hx2 hy1 b3 s2
  obtain ⟨W, hW⟩ : ∃ W, W = ((w.alloc (.cells A 24)).alloc (.cells C 24)).alloc (.cells M 42) := ⟨_, rfl⟩
  rw [← hW] at hr hx3 hy3 bel
  obtain ⟨B, hB⟩ : ∃ B, B = w.heap.size := ⟨_, rfl⟩
  have HB : Hid (w.heap.size = B) := hB.symm
  rw [← hB] at hr hx3 hy3
  obtain ⟨O, hO⟩ : ∃ O, O = B + 1 + 1 := ⟨_, rfl⟩
  rw [← hO] at hr
  have HW : Hid (((w.alloc (.cells A 24)).alloc (.cells C 24)).alloc (.cells M 42) = W) := hW.symm
  have HO : Hid (B + 1 + 1 = O) := hO.symm
  have HR : Hid (TAt W O t la ln lc da n c) := hr
  have HX : Hid (∀ i, i < 16 → x i < 256) := hx
  have HY : Hid (∀ i, i < 16 → y i < 256) := hy
  have HXB : Hid (Boxed W B V x) := hx3
  have HYB : Hid (Boxed W (B + 1) U y) := hy3
  rw [← hM]
  clear hW hr hx3 hy3 hO hx hy hA hC hM hB
  have HK : Hid (TOk w t la ln os da n c) := k
  have HT : Hid (∀ A, Below w.heap.size w A → Tabs A) := fun A hA => hT.old hA
  have QS : Hid _ := started_any W (HT.out W bel)
  clear k hT
  go_enter Tryd.func4, Tryd.ntmps4
  go_upto_region 1 with fail
  rw [HB.out, HO.out, HW.out]
  go_wp2_with fail
  refine Calls.mono QS.out ?_
  rintro e w1 ⟨rfl, hb1⟩
  have bel1 := bthen bel hb1
  have HX1 : Hid (Boxed w1 B V x) := HXB.out.old hb1
  have HY1 : Hid (Boxed w1 (B + 1) U y) := HYB.out.old hb1
  have HR1 : Hid (TAt w1 O t la ln lc da n c) := HR.out.below hb1
  have QP : Hid _ := putT_any V U x y t la ln lc os da n c w1 (HT.out w1 bel1).t (HT.out w1 bel1).l (HK.out.old bel1) HX.out HY.out
  clear QS hb1 HXB HYB HR HW
  go_wp2_with (first | (refine wpList_load_ip (.tmp 3) rfl B V x rfl HX1.out rfl ?_) | (refine wpList_load_ip (.tmp 4) rfl (B + 1) U y rfl HY1.out rfl ?_) | (refine wpList_load_t9 (.tmp 5) rfl O t la ln lc da n c rfl HR1.out rfl ?_))
  refine Calls.mono QP.out ?_
  rintro e w2 ⟨v, er, rfl, her, hb2, hr2⟩
  have bel2 := bthen bel1 hb2
  have HX2 : Hid (Boxed w2 B V x) := HX1.out.old hb2
  have HY2 : Hid (Boxed w2 (B + 1) U y) := HY1.out.old hb2
  have HR2 : Hid (TAt w2 O t la ln lc da n c) := TAt.below HR1.out hb2
  clear HX1 HY1 HR1 
  clear QP hb2
  by_cases hz : er = 0
  case neg =>
    obtain rfl : v = .slice none 0 0 := by
      rcases hr2 with ⟨h, _⟩ | ⟨_, h⟩
      · exact absurd h hz
      · exact h
    have b1 : ((er : Int) != 0) = true := by rw [bne_iff_ne]; omega
    clear hr2 her hz
    go_wp2_with fail
    refine Calls.mono (num9_any (er : Int) _) ?_
    rintro e wn ⟨rfl, rfl⟩
    go_wp2
    go_ret
    exact ⟨rfl, bel2⟩
  subst hz
  have hok : psOk V U x y = true ∧ L4.tChk t = 0 := by
    have h := her.symm
    unfold L4.tPutE at h
    cases hp : psOk V U x y with
    | true => rw [hp, if_pos rfl] at h; exact ⟨rfl, h⟩
    | false => rw [hp] at h; cases h
  obtain ⟨hps, hck⟩ := hok
  obtain ⟨ol, hol⟩ : ∃ ol, ol = (I4.putO t.os).length := ⟨_, rfl⟩
  rw [← hol] at hr2
  obtain ⟨L, hL⟩ : ∃ L, L = 20 + ol + n := ⟨_, rfl⟩
  have hz0 := L4.tChk_zero hck
  have hol4 := I4.put_len t.os
  rw [← hol] at hol4
  have L65 : L ≤ 65535 := by have := hz0.2.2; rw [HK.out.d.dl, ← hol] at this; omega
  obtain ⟨pb, hpb⟩ : ∃ pb, pb = psL V U x y 6 (L : Nat) := ⟨_, rfl⟩
  obtain ⟨bs, hbs⟩ : ∃ bs, bs = L4.tSer t pb := ⟨_, rfl⟩
  obtain ⟨g, rfl, ho2⟩ : ∃ g, v = .slice (some ⟨g, 0, none⟩) L L ∧ OwnB w2 w1.heap.size (.slice (some ⟨g, 0, none⟩) L L) L bs := by
    rcases hr2 with ⟨_, g, h1, h2⟩ | ⟨h1, _⟩
    · rw [← hL] at h1 h2
      rw [← hpb, ← hbs] at h2
      exact ⟨g, h1, h2⟩
    · exact absurd rfl h1
  have hbl : bs.length = L := by rw [hbs, L4.tSer_len, HK.out.d.dl, ← hol, hL]
  have hpe : pb.length % 2 = 0 := by rw [hpb]; exact psL_even _ _ _ _ _ _
  have hput := hz0.2.1
  have hb256 : ∀ z ∈ bs, z < 256 := by
    rw [hbs]
    intro z hz
    rcases List.mem_append.1 hz with h | h
    · exact L4.tHd_256 t _ hz0.1 (L4.tSum_le _ _) z h
    · rcases List.mem_append.1 h with h | h
      · exact put_256 t.os (by rw [← HK.out.ov]; exact opts_256 HK.out.oat) z h
      · exact HK.out.d.d256 z h
  have htp : L4.tP bs = t := by rw [hbs]; exact L4.tP_ser t pb hck
  have hte : L4.tPE true pb bs = 0 := by rw [hbs]; exact L4.tPE_ser t pb hpe hck
  have hth : L4.tH bs = 20 + ol := by rw [hbs, L4.tH_ser, hol]; rfl
  have HGOOD : Hid (S.fold (S.wv false (pb ++ bs)) = 65535) := by rw [hbs]; exact L4.tSer_good t pb hpe
  have HP256 : Hid (∀ z ∈ pb, z < 256) := by rw [hpb]; exact psL_256 V U x y 6 (L : Nat) HX.out HY.out
  have HP40 : Hid (pb.length ≤ 40) := by rw [hpb]; exact psL_len _ _ _ _ _ _
  have HCHK : Hid (L4.tChk t = 0) := hck
  have HPS : Hid (psOk V U x y = true) := hps
  have HBL : Hid (bs.length = L) := hbl
  have HB256 : Hid (∀ z ∈ bs, z < 256) := hb256
  have HOB2 : Hid (OwnB w2 w1.heap.size (.slice (some ⟨g, 0, none⟩) L L) L bs) := ho2
  have d2 : DOk w2 bs (some ⟨g, 0, none⟩) L L := ⟨hbl, (owns_seg_at ho2).1, hb256, by omega, by omega, by omega⟩
  have QT := parseT_any V U x y (some ⟨g, 0, none⟩) L L bs w2 (HT.out w2 bel2).t (HT.out w2 bel2).l d2 HX.out HY.out
  rw [hps, ← hpb, hte] at QT
  have HQT : Hid _ := QT
  have HD2 : Hid (DOk w2 bs (some ⟨g, 0, none⟩) L L) := d2
  have HTP : Hid (L4.tP bs = t) := htp
  have HTH : Hid (L4.tH bs = 20 + ol) := hth
  have HL : Hid (L = 20 + ol + n) := hL
  have HPBE : Hid (pb = psL V U x y 6 (L : Nat)) := hpb
  have HOL4 : Hid (ol ≤ 40 ∧ ol % 4 = 0) := hol4
  clear hr2 her hz0 hbl hb256 hpe htp hte hth hbs hpb hps hck ho2 d2 QT hL hol hol4 hput
  go_wp2_with fail
  refine Calls.mono (num9_any 0 _) ?_
  rintro e wn ⟨rfl, rfl⟩
  go_wp2_with (first | (refine wpList_load_ip (.tmp 3) rfl B V x rfl HX2.out rfl ?_) | (refine wpList_load_ip (.tmp 4) rfl (B + 1) U y rfl HY2.out rfl ?_) | (refine wpList_load_t9 (.tmp 5) rfl O t la ln lc da n c rfl HR2.out rfl ?_))
  refine Calls.mono HQT.out ?_
  rintro e w6 ⟨er, ra, rn, rc, rfl, hb6, her, hos⟩
  subst her
  obtain ⟨ops, hro, hrn, hown⟩ := hos rfl
  have hmap : ops.map (fun o => I4.intO (I4.ov (L4.tOb bs) o)) = t.os := by
    have := congrArg T9.os HTP.out
    simp only [L4.tP, hro, Option.getD_some] at this
    exact this
  have hlen : ops.length = ln := by
    have h1 := congrArg List.length hmap
    have h2 := congrArg List.length HK.out.ov
    simp only [vals, List.length_map] at h1 h2
    rw [h1, ← h2, HK.out.ol]
  rw [hlen] at hrn
  have hrn2 := hrn.symm
  subst hrn2
  have h9 := HD2.out.old hb6
  have o256 : ∀ z ∈ L4.tOb bs, z < 256 := fun z hz => h9.d256 z (List.mem_of_mem_drop (List.mem_of_mem_take hz))
  have hrs := L4.readO_some hro
  have hPat : OptsAt w6 ra (ops.map (opV (a20 (some ⟨g, 0, none⟩) L) (L4.tOb bs))) := by
    have hsg := seg_pre (seg_rest h9.seg 20 L (by rw [HBL.out]; have := HL.out; omega) (by rw [HBL.out]; omega)) (L4.tH bs - 20)
    exact opts_of_own hown hlen hsg o256 (fun q hq => ((I4.scan_in _ 0 ops hrs.2.1 (Nat.zero_le _) o256).1 q hq).2.2.2) (by have := hrs.1; omega)
  obtain ⟨ps, hps⟩ : ∃ ps, ps = ops.map (opV (a20 (some ⟨g, 0, none⟩) L) (L4.tOb bs)) := ⟨_, rfl⟩
  rw [← hps] at hPat
  have HVP : Hid (vals os = vals ps) := by show _ = _; rw [hps, vals_opV, hmap]; exact HK.out.ov
  have HPV6 : Hid (OptsAt w6 ra ps) := hPat
  obtain ⟨dv, hdv⟩ : ∃ dv, dv = cutA (some ⟨g, 0, none⟩) (20 + ol) n := ⟨_, rfl⟩
  have hsub : L - (20 + ol) = n := by have := HL.out; omega
  have ept : ptC 0 ra ln rc (some ⟨g, 0, none⟩) bs = tC t ra ln rc dv n n := by
    unfold ptC
    rw [if_pos rfl, HTP.out, HTH.out, HBL.out, hsub, hdv]
  have hdd : bs.drop (20 + ol) = t.d := by
    have := congrArg T9.d HTP.out
    simp only [L4.tP, HTH.out] at this
    exact this
  have sdv : Seg .u8 w6 dv (toI t.d) := by
    have h := h9.seg.cut (20 + ol) n (by rw [toI_len, HBL.out]; have := HL.out; omega)
    rw [toI_drop, toI_take, hdd, List.take_of_length_le (by rw [HK.out.d.dl]; omega), ← hdv] at h
    exact h
  rw [ept]
  have HDV6 : Hid (DOk w6 t.d dv n n) := ⟨HK.out.d.dl, sdv, HK.out.d.d256, Nat.le_refl _, by have := HK.out.d.sm; omega, HK.out.d.sm⟩
  have bel6 := bthen bel2 hb6
  have HX6 : Hid (Boxed w6 B V x) := HX2.out.old hb6
  have HY6 : Hid (Boxed w6 (B + 1) U y) := HY2.out.old hb6
  have HR6 : Hid (TAt w6 O t la ln lc da n c) := TAt.below HR2.out hb6
  have HOB6 : Hid (OwnB w6 w1.heap.size (.slice (some ⟨g, 0, none⟩) L L) L bs) := own_below HOB2.out hb6
  clear HX2 HY2 HR2 HOB2
  clear HQT hb6 hos hro hown hmap hlen h9 o256 hrs hPat hps hdv hsub ept hdd sdv HD2
  have hl6 : Below w6.heap.size w6 (w6.alloc (.cells (tC t ra ln rc dv n n) 42)) := (Below.refl _ _).alloc (Nat.le_refl _) _
  have un6 := tAt_new w6 t ra ln rc dv n n
  obtain ⟨w7, hw7⟩ : ∃ w7, w7 = w6.alloc (.cells (tC t ra ln rc dv n n) 42) := ⟨_, rfl⟩
  rw [← hw7] at hl6 un6
  have HW7 : Hid (w6.alloc (.cells #[.int .i64 t.sp, .int .i64 t.dp, .int .i64 t.sq, .int .i64 t.ak, .int .i64 t.fl, .int .i64 t.wi, .int .i64 t.ur, .slice ra ln rc, .slice dv n n] 42) = w7) := hw7.symm
  obtain ⟨V6, hV6⟩ : ∃ V6, V6 = w6.heap.size := ⟨_, rfl⟩
  rw [← hV6] at un6
  have HTV7 : Hid (TAt w7 V6 t ra ln rc dv n n) := un6
  have HVs : Hid (w6.heap.size = V6) := hV6.symm
  have bel7 := bthen bel6 hl6
  have HX7 : Hid (Boxed w7 B V x) := HX6.out.old hl6
  have HY7 : Hid (Boxed w7 (B + 1) U y) := HY6.out.old hl6
  have HR7 : Hid (TAt w7 O t la ln lc da n c) := TAt.below HR6.out hl6
  have HOB7 : Hid (OwnB w7 w1.heap.size (.slice (some ⟨g, 0, none⟩) L L) L bs) := own_below HOB6.out hl6
  have HDV7 : Hid (DOk w7 t.d dv n n) := HDV6.out.old hl6
  have HPV7 : Hid (OptsAt w7 ra ps) := OptsAt.old HPV6.out hl6
  clear HX6 HY6 HR6 HOB6 HDV6 HPV6
  clear hl6 un6 hw7 hV6
  rw [show tC t ra ln rc dv n n = #[.int .i64 t.sp, .int .i64 t.dp, .int .i64 t.sq, .int .i64 t.ak, .int .i64 t.fl, .int .i64 t.wi, .int .i64 t.ur, .slice ra ln rc, .slice dv n n] from rfl]
  go_upto_region 6 with fail
  rw [HVs.out, HW7.out]
  clear HVs HW7
  have QD := pseudo_any V U x y 6 (L : Nat) w7
  rw [psE_ok HPS.out (by simp [psIn]; omega), ← HPBE.out] at QD
  have HQD : Hid _ := QD
  clear QD
  go_wp2_with (first | (refine wpList_load_ip (.tmp 3) rfl B V x rfl HX7.out rfl ?_) | (refine wpList_load_ip (.tmp 4) rfl (B + 1) U y rfl HY7.out rfl ?_) | (refine wpList_load_t9 (.tmp 5) rfl O t la ln lc da n c rfl HR7.out rfl ?_))
  refine Calls.mono HQD.out ?_
  rintro e w8 ⟨v, rfl, ho8, _, hb8⟩
  obtain ⟨pa, pcp, hpv⟩ := owns_shape ho8
  subst hpv
  have HPB8 : Hid (OwnB w8 w7.heap.size (.slice pa pb.length pcp) pb.length pb) := ho8
  have bel8 := bthen bel7 hb8
  have HX8 : Hid (Boxed w8 B V x) := HX7.out.old hb8
  have HY8 : Hid (Boxed w8 (B + 1) U y) := HY7.out.old hb8
  have HR8 : Hid (TAt w8 O t la ln lc da n c) := TAt.below HR7.out hb8
  have HOB8 : Hid (OwnB w8 w1.heap.size (.slice (some ⟨g, 0, none⟩) L L) L bs) := own_below HOB7.out hb8
  have HTV8 : Hid (TAt w8 V6 t ra ln rc dv n n) := TAt.below HTV7.out hb8
  have HDV8 : Hid (DOk w8 t.d dv n n) := HDV7.out.old hb8
  have HPV8 : Hid (OptsAt w8 ra ps) := OptsAt.old HPV7.out hb8
  clear HX7 HY7 HR7 HOB7 HTV7 HDV7 HPV7
  clear HQD hb8 ho8
  go_wp2_with fail
  refine Calls.mono (num9_any 0 _) ?_
  rintro e wn ⟨rfl, rfl⟩
  go_wp2_with fail
  refine Calls.mono (num9_any 0 _) ?_
  rintro e wn ⟨rfl, rfl⟩
  have QS : Hid _ := sameT_true t la ra ln lc rc os ps da dv n c n w8 (HK.out.old bel8).oat HPV8.out HK.out.ol HVP.out HK.out.on (HK.out.old bel8).d HDV8.out
  go_wp2_with (first | (refine wpList_load_ip (.tmp 3) rfl B V x rfl HX8.out rfl ?_) | (refine wpList_load_ip (.tmp 4) rfl (B + 1) U y rfl HY8.out rfl ?_) | (refine wpList_load_t9 (.tmp 5) rfl O t la ln lc da n c rfl HR8.out rfl ?_) | (refine wpList_load_t9 (.tmp 10) rfl V6 t ra ln rc dv n n rfl HTV8.out rfl ?_))
  refine Calls.mono QS.out ?_
  rintro e w9 ⟨rfl, hb9⟩
  have bel9 := bthen bel8 hb9
  have HX9 : Hid (Boxed w9 B V x) := HX8.out.old hb9
  have HY9 : Hid (Boxed w9 (B + 1) U y) := HY8.out.old hb9
  have HR9 : Hid (TAt w9 O t la ln lc da n c) := TAt.below HR8.out hb9
  have HOB9 : Hid (OwnB w9 w1.heap.size (.slice (some ⟨g, 0, none⟩) L L) L bs) := own_below HOB8.out hb9
  have HPB9 : Hid (OwnB w9 w7.heap.size (.slice pa pb.length pcp) pb.length pb) := own_below HPB8.out hb9
  clear HX8 HY8 HR8 HOB8 HPB8
  clear QS hb9
  have QG : Hid _ := good_two w9 w9.heap.size pa (some ⟨g, 0, none⟩) pb.length L pcp L pb bs rfl rfl HBL.out (OwnB.part HPB9.out HP256.out) (OwnB.part HOB9.out HB256.out) (by have := HP40.out; omega)
  rw [decide_eq_true HGOOD.out] at QG
  obtain ⟨pl, hpl⟩ : ∃ pl, pl = pb.length := ⟨_, rfl⟩
  rw [← hpl] at QG ⊢
  clear hpl
  go_wp2_with fail
  refine Calls.mono QG.out ?_
  rintro e w10 ⟨rfl, hb10⟩
  have bel10 := bthen bel9 hb10
  have HX10 : Hid (Boxed w10 B V x) := HX9.out.old hb10
  have HY10 : Hid (Boxed w10 (B + 1) U y) := HY9.out.old hb10
  have HR10 : Hid (TAt w10 O t la ln lc da n c) := TAt.below HR9.out hb10
  clear HX9 HY9 HR9 
  clear QG hb10
  have c8 := HR10.out.c8
  have eM : ((L : Int) % 4 == (n : Int) % 4) = true := by rw [beq_iff_eq]; have := HL.out; have := HOL4.out; omega
  have eM1 : Int.tmod (L : Int) 4 = (L : Int) % 4 := Int.tmod_eq_emod_of_nonneg (by omega)
  have eM2 : Int.tmod (n : Int) 4 = (n : Int) % 4 := Int.tmod_eq_emod_of_nonneg (by omega)
  have QC : Hid _ := chkT_any t la ln lc os da n c w10 (HT.out w10 bel10).l (HK.out.old bel10)
  rw [HCHK.out] at QC
  go_wp2_with (first | (refine wpList_load_ip (.tmp 3) rfl B V x rfl HX10.out rfl ?_) | (refine wpList_load_ip (.tmp 4) rfl (B + 1) U y rfl HY10.out rfl ?_) | (refine wpList_load_t9 (.tmp 5) rfl O t la ln lc da n c rfl HR10.out rfl ?_))
  refine Calls.mono QC.out ?_
  rintro e w11 ⟨rfl, hb11⟩
  have HFIN : Hid (Below w.heap.size w w11) := bthen bel10 hb11
  clear hb11 QC c8
  go_wp2_with fail
  refine Calls.mono (num9_any 0 _) ?_
  rintro e wn ⟨rfl, rfl⟩
  go_wp2
  go_ret
  exact ⟨rfl, HFIN.out⟩
end Go.Proofs.YtnlkimeppfppgaaDoor
