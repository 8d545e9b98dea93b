/-
  The walk of L4Window: data are windows; nothing is appended into the bytes.
-/
import Derived.Test.YtmeieggnfmhnmaaDoorL9Win2
import Derived.Deep.DeepCutAuto
namespace Go.Proofs.YtmeieggnfmhnmaaDoor
open Go.RowKit
open L4 (U9 T9)

set_option maxHeartbeats 25600000 in
set_option maxRecDepth 100000 in
theorem l4Window.walk (w : World) (hT : Tabs w) (V : Int) (x : Nat → Nat) (hx : ∀ i, i < 16 → x i < 256) (U : Int) (y : Nat → Nat) (hy : ∀ i, i < 16 → y i < 256) (bs : List Nat) (ba : Option Addr) (n cb : Nat) (k : DOk w bs ba n cb) (hcb : cb ≤ 1048576) (cI : Int) (wc : (Lit.int .u8 cI).wf = true) :
    Calls Tryd.prog 7 #[.agg (ipCells V x), .agg (ipCells U y), .slice ba n cb, .int .u8 cI] w fun e w' => e = .returned (.bool true) ∧ Below w.heap.size w w' := by
  obtain ⟨i0, hi, hz0, hz1, hz2⟩ := info_parts Tryd.infoByte
  obtain ⟨c, hc, lc256⟩ : ∃ c : Nat, cI = (c : Int) ∧ c < 256 := by
    simp [Lit.wf, IntKind.min, IntKind.max, IntKind.bits, IntKind.signed] at wc
    exact ⟨cI.toNat, by omega, by omega⟩
  subst hc
  clear wc
  obtain ⟨A, hA⟩ : ∃ A, A = ipCells V x := ⟨_, rfl⟩
  obtain ⟨C, hC⟩ : ∃ C, C = ipCells U y := ⟨_, rfl⟩
  have hx1 := boxed_new w V x 24
  have hy1 := boxed_new (w.alloc (.cells (ipCells V x) 24)) U y 24
  rw [World.size_alloc] at hy1
  have hx2 := hx1.old ((Below.refl _ _).alloc (Nat.le_refl _) (.cells (ipCells U y) 24))
  clear hx1
  rw [← hA] at hx2 hy1 ⊢
  rw [← hC] at hx2 hy1 ⊢
  have bel : Below w.heap.size w ((w.alloc (.cells A 24)).alloc (.cells C 24)) := ((Below.refl _ _).alloc (Nat.le_refl _) _).alloc (by simp) _
  obtain ⟨W, hW⟩ : ∃ W, W = (w.alloc (.cells A 24)).alloc (.cells C 24) := ⟨_, rfl⟩
  rw [← hW] at hx2 hy1 bel
  obtain ⟨B, hB⟩ : ∃ B, B = w.heap.size := ⟨_, rfl⟩
  have HB : Hid (w.heap.size = B) := hB.symm
  rw [← hB] at hx2 hy1
  have HW : Hid ((w.alloc (.cells A 24)).alloc (.cells C 24) = W) := hW.symm
  have HX : Hid (∀ i, i < 16 → x i < 256) := hx
  have HY : Hid (∀ i, i < 16 → y i < 256) := hy
  have HXB : Hid (Boxed W B V x) := hx2
  have HYB : Hid (Boxed W (B + 1) U y) := hy1
  clear hW hx2 hy1 hx hy hA hC hB
  have HK : Hid (DOk w bs ba n cb) := k
  have hnm : n ≤ 1048576 := by have := k.cap; omega
  have HT : Hid (∀ A, Below w.heap.size w A → Tabs A) := fun A hA => hT.old hA
  have QS : Hid _ := started_any W (HT.out W bel)
  clear k hT
  go_enter Tryd.func7, Tryd.ntmps7
  go_upto_region 1 with fail
  rw [HB.out, HW.out]
  go_wp2_with fail
  refine Calls.mono QS.out ?_
  rintro e w1 ⟨rfl, hb1⟩
  have bel1 := bthen bel hb1
  have HX1 : Hid (Boxed w1 B V x) := HXB.out.old hb1
  have HY1 : Hid (Boxed w1 (B + 1) U y) := HYB.out.old hb1
  have QW : Hid _ := wide_any ba n cb bs w1 HK.out.dl (HK.out.old bel1).seg hnm
  clear QS hb1 HXB HYB HW HB
  go_wp2_with fail
  refine Calls.mono QW.out ?_
  rintro e w2 ⟨g, cc, rfl, hog, hb2⟩
  obtain ⟨LL, hLL⟩ : ∃ LL, LL = bs ++ [91, 92, 93] := ⟨_, rfl⟩
  rw [← hLL] at hog
  have HLL : Hid (LL = bs ++ [91, 92, 93]) := hLL
  have HLN : Hid (LL.length = n + 3) := by show _ = _; rw [hLL, List.length_append, HK.out.dl]; rfl
  have HL256 : Hid (∀ z ∈ LL, z < 256) := by
    rw [hLL]
    intro z hz
    rcases List.mem_append.1 hz with h1 | h1
    · exact HK.out.d256 z h1
    · simp at h1; omega
  have HR2 : Hid (w2.ownsRow w1.heap.size 5 1 (.slice (some ⟨g, 0, none⟩) (n + 3) cc) (n + 3) ((toI LL).map (Value.int .u8))) := hog
  have hcp := (owns_at hog).2
  have HWG : Hid (w.heap.size ≤ g) := Nat.le_trans bel1.size (hog.lt g rfl).1
  have HDI : Hid (∀ A, A.ownsRow w1.heap.size 5 1 (.slice (some ⟨g, 0, none⟩) (n + 3) cc) (n + 3) ((toI LL).map (Value.int .u8)) → DOk A bs (some ⟨g, 0, none⟩) n cc) := fun A hA => by
    have h1 := (owns_at hA).1.part0 n (by rw [toI_len, HLN.out]; omega)
    rw [toI_take, HLL.out, List.take_append_of_le_length (by rw [HK.out.dl]; exact Nat.le_refl _), List.take_of_length_le (by rw [HK.out.dl]; exact Nat.le_refl _)] at h1
    exact ⟨HK.out.dl, h1, HK.out.d256, by omega, hcp.2, by omega⟩
  have HKE : Hid (∀ A, Below w.heap.size w A → A.ownsRow w1.heap.size 5 1 (.slice (some ⟨g, 0, none⟩) (n + 3) cc) (n + 3) ((toI LL).map (Value.int .u8)) → Calls Tryd.prog 25 #[.slice (some ⟨g, 0, none⟩) (n + 3) cc, .slice ba n cb] A fun e w' => e = .returned (.bool true) ∧ A = w') := fun A hA hR => by
    have h1 := (owns_at hR).1
    rw [HLL.out] at h1
    exact kept_any g 0 ba n cc cb bs A HK.out.dl h1 (HK.out.old hA).seg HK.out.d256 hcp.1 hnm
  have s0 : (0 : Int) ≤ (n : Int) := by omega
  have s1 : (n : Int) ≤ (cc : Int) := by have := hcp.1; omega
  have s2 : ((n : Int)).toNat = n := by omega
  have hncc : n ≤ cc := by have := hcp.1; omega
  have hcm : cc ≤ 9223372036854775807 := hcp.2
  clear QW hog hLL hcp
  have bel2 := bthen bel1 hb2
  have HX2 : Hid (Boxed w2 B V x) := HX1.out.old hb2
  have HY2 : Hid (Boxed w2 (B + 1) U y) := HY1.out.old hb2
  clear HX1 HY1
  clear hb2
  have QP : Hid _ := parseU_u V U x y (some ⟨g, 0, none⟩) n cc bs w2 (HT.out w2 bel2).u (HDI.out w2 HR2.out) HX.out HY.out
  go_wp2_with (first | (refine wpList_load_ip (.tmp 4) rfl B V x rfl HX2.out rfl ?_) | (refine wpList_load_ip (.tmp 5) rfl (B + 1) U y rfl HY2.out rfl ?_))
  refine Calls.mono QP.out ?_
  rintro e w3 ⟨er, u, da, m, rfl, hb3, her, hdk, h1, h2⟩
  have HU1 : Hid (er = 0 → 8 + m ≤ n ∧ da = cutA (some ⟨g, 0, none⟩) 8 m) := fun h0 => by
    have hz := L4.uPE_zero (her.symm.trans h0)
    have hl := HK.out.dl
    obtain ⟨_, e2, e3⟩ := h1 h0
    exact ⟨by omega, e3⟩
  have HMN : Hid (m ≤ n) := by
    by_cases h0 : er = 0
    · have := (HU1.out h0).1; exact (by omega : m ≤ n)
    · have := (h2 h0).2.2; exact (by omega : m ≤ n)
  have HDU3 : Hid (DOk w3 u.d da m m) := hdk
  clear QP her h1 h2 hdk s0 s1 s2 hncc
  have bel3 := bthen bel2 hb3
  have HX3 : Hid (Boxed w3 B V x) := HX2.out.old hb3
  have HY3 : Hid (Boxed w3 (B + 1) U y) := HY2.out.old hb3
  have HR3 : Hid (w3.ownsRow w1.heap.size 5 1 (.slice (some ⟨g, 0, none⟩) (n + 3) cc) (n + 3) ((toI LL).map (Value.int .u8))) := owns_below HR2.out hb3
  clear HX2 HY2 HR2
  clear hb3
  have hl4 : Below w3.heap.size w3 (w3.alloc (.cells (uC u da m m) 28)) := (Below.refl _ _).alloc (Nat.le_refl _) _
  have un4 := uAt_new w3 u da m m
  obtain ⟨w4, hw4⟩ : ∃ w4, w4 = w3.alloc (.cells (uC u da m m) 28) := ⟨_, rfl⟩
  rw [← hw4] at hl4 un4
  have HW4 : Hid (w3.alloc (.cells #[.int .i64 u.sp, .int .i64 u.dp, .bool u.ns, .slice da m m] 28) = w4) := hw4.symm
  obtain ⟨OU, hOU⟩ : ∃ OU, OU = w3.heap.size := ⟨_, rfl⟩
  rw [← hOU] at un4
  have HOU4 : Hid (UAt w4 OU u da m m) := un4
  have HVs4 : Hid (w3.heap.size = OU) := hOU.symm
  have bel4 := bthen bel3 hl4
  have HX4 : Hid (Boxed w4 B V x) := HX3.out.old hl4
  have HY4 : Hid (Boxed w4 (B + 1) U y) := HY3.out.old hl4
  have HR4 : Hid (w4.ownsRow w1.heap.size 5 1 (.slice (some ⟨g, 0, none⟩) (n + 3) cc) (n + 3) ((toI LL).map (Value.int .u8))) := owns_below HR3.out hl4
  have HDU4 : Hid (DOk w4 u.d da m m) := HDU3.out.old hl4
  clear HX3 HY3 HR3 HDU3
  clear hl4 un4 hw4 hOU
  rw [show uC u da m m = #[.int .i64 u.sp, .int .i64 u.dp, .bool u.ns, .slice da m m] from rfl]
  go_upto_region 5 with fail
  rw [HVs4.out, HW4.out]
  clear HVs4 HW4
  have QP : Hid _ := parseT_u V U x y (some ⟨g, 0, none⟩) n cc bs w4 (HT.out w4 bel4).t (HT.out w4 bel4).l (HDI.out w4 HR4.out) HX.out HY.out
  go_wp2_with (first | (refine wpList_load_ip (.tmp 4) rfl B V x rfl HX4.out rfl ?_) | (refine wpList_load_ip (.tmp 5) rfl (B + 1) U y rfl HY4.out rfl ?_))
  refine Calls.mono QP.out ?_
  rintro e w5 ⟨eh, t, la, ln, lc, os, dt, mt, rfl, hb5, heh, hdk, h1, h2, h3⟩
  have HT1 : Hid (eh = 0 → L4.tH bs + mt = n ∧ dt = cutA (some ⟨g, 0, none⟩) (L4.tH bs) mt) := fun h0 => by
    have hz := L4.tPE_zero (heh.symm.trans h0)
    have hl := HK.out.dl
    obtain ⟨_, e2, e3⟩ := h1 h0
    exact ⟨by omega, e3⟩
  have HTN : Hid (mt ≤ n) := by
    by_cases h0 : eh = 0
    · have := (HT1.out h0).1; exact (by omega : mt ≤ n)
    · have := (h2 h0).2.2.2.2.2.2; exact (by omega : mt ≤ n)
  have hob : ∀ z ∈ L4.tOb bs, z < 256 := fun z hz => HK.out.d256 z (List.mem_of_mem_drop (List.mem_of_mem_take hz))
  have HOC : Hid (∀ o ∈ os, o.c = o.d.length) := by
    by_cases h0 : eh = 0
    · obtain ⟨ops, hro, _, rfl, _⟩ := h3 h0
      exact full_opV _ hro hob
    · obtain ⟨_, _, _, _, rfl, _⟩ := h2 h0
      intro o ho
      cases ho
  have HBIGT : Hid (∀ o ∈ os, o.d.length ≤ 1048576) := by
    by_cases h0 : eh = 0
    · obtain ⟨ops, hro, _, rfl, _⟩ := h3 h0
      intro o ho
      have := small_opV _ hro o ho
      omega
    · obtain ⟨_, _, _, _, rfl, _⟩ := h2 h0
      intro o ho
      cases ho
  have HLK : Hid (ln ≤ 40) := by
    by_cases h0 : eh = 0
    · obtain ⟨ops, hro, e1, _, _⟩ := h3 h0
      rw [e1]
      exact ops_few hro hob
    · have := (h2 h0).2.2.1; exact (by omega : ln ≤ 40)
  have HDT5 : Hid (TOk w5 t la ln os dt mt mt) := hdk
  clear QP heh h1 h2 h3 hdk hob
  have bel5 := bthen bel4 hb5
  have HX5 : Hid (Boxed w5 B V x) := HX4.out.old hb5
  have HY5 : Hid (Boxed w5 (B + 1) U y) := HY4.out.old hb5
  have HR5 : Hid (w5.ownsRow w1.heap.size 5 1 (.slice (some ⟨g, 0, none⟩) (n + 3) cc) (n + 3) ((toI LL).map (Value.int .u8))) := owns_below HR4.out hb5
  have HDU5 : Hid (DOk w5 u.d da m m) := HDU4.out.old hb5
  have HOU5 : Hid (UAt w5 OU u da m m) := UAt.below HOU4.out hb5
  clear HX4 HY4 HR4 HDU4 HOU4
  clear hb5
  have hl6 : Below w5.heap.size w5 (w5.alloc (.cells (tC t la ln lc dt mt mt) 39)) := (Below.refl _ _).alloc (Nat.le_refl _) _
  have un6 := tAt_new w5 t la ln lc dt mt mt
  obtain ⟨w6, hw6⟩ : ∃ w6, w6 = w5.alloc (.cells (tC t la ln lc dt mt mt) 39) := ⟨_, rfl⟩
  rw [← hw6] at hl6 un6
  have HW6 : Hid (w5.alloc (.cells #[.int .i64 t.sp, .int .i64 t.dp, .int .i64 t.sq, .int .i64 t.ak, .int .i64 t.fl, .int .i64 t.wi, .int .i64 t.ur, .slice la ln lc, .slice dt mt mt] 39) = w6) := hw6.symm
  obtain ⟨OT, hOT⟩ : ∃ OT, OT = w5.heap.size := ⟨_, rfl⟩
  rw [← hOT] at un6
  have HOT6 : Hid (TAt w6 OT t la ln lc dt mt mt) := un6
  have HVs6 : Hid (w5.heap.size = OT) := hOT.symm
  have bel6 := bthen bel5 hl6
  have HX6 : Hid (Boxed w6 B V x) := HX5.out.old hl6
  have HY6 : Hid (Boxed w6 (B + 1) U y) := HY5.out.old hl6
  have HR6 : Hid (w6.ownsRow w1.heap.size 5 1 (.slice (some ⟨g, 0, none⟩) (n + 3) cc) (n + 3) ((toI LL).map (Value.int .u8))) := owns_below HR5.out hl6
  have HDU6 : Hid (DOk w6 u.d da m m) := HDU5.out.old hl6
  have HOU6 : Hid (UAt w6 OU u da m m) := UAt.below HOU5.out hl6
  have HDT6 : Hid (TOk w6 t la ln os dt mt mt) := HDT5.out.old hl6
  clear HX5 HY5 HR5 HDU5 HOU5 HDT5
  clear hl6 un6 hw6 hOT
  rw [show tC t la ln lc dt mt mt = #[.int .i64 t.sp, .int .i64 t.dp, .int .i64 t.sq, .int .i64 t.ak, .int .i64 t.fl, .int .i64 t.wi, .int .i64 t.ur, .slice la ln lc, .slice dt mt mt] from rfl]
  go_upto_region 6 with fail
  rw [HVs6.out, HW6.out]
  clear HVs6 HW6
  have QP : Hid _ := topt_u (some ⟨g, 0, none⟩) cc n bs w6 (HT.out w6 bel6).l (HDI.out w6 HR6.out)
  go_wp2_with fail
  refine Calls.mono QP.out ?_
  rintro e w7 ⟨eg, ga, kn, gc, ls, rfl, hb7, hls, hkn, hk40, hlc, hlz⟩
  have HLS7 : Hid (OptsAt w7 ga ls) := hls
  have HKN : Hid (ls.length = kn) := hkn
  have HLC : Hid (∀ o ∈ ls, o.c = o.d.length) := hlc
  clear QP hls hkn hlc
  have bel7 := bthen bel6 hb7
  have HX7 : Hid (Boxed w7 B V x) := HX6.out.old hb7
  have HY7 : Hid (Boxed w7 (B + 1) U y) := HY6.out.old hb7
  have HR7 : Hid (w7.ownsRow w1.heap.size 5 1 (.slice (some ⟨g, 0, none⟩) (n + 3) cc) (n + 3) ((toI LL).map (Value.int .u8))) := owns_below HR6.out hb7
  have HDU7 : Hid (DOk w7 u.d da m m) := HDU6.out.old hb7
  have HOU7 : Hid (UAt w7 OU u da m m) := UAt.below HOU6.out hb7
  have HDT7 : Hid (TOk w7 t la ln os dt mt mt) := HDT6.out.old hb7
  have HOT7 : Hid (TAt w7 OT t la ln lc dt mt mt) := TAt.below HOT6.out hb7
  clear HX6 HY6 HR6 HDU6 HOU6 HDT6 HOT6
  clear hb7
  have HBIG : Hid (∀ o ∈ ls, o.d.length ≤ 1048576) := hlz
  clear hlz
  have hLK := HLK.out
  go_wp2
  go_loopw [18, 9] (fun ix ok wr => ∃ q : Nat, ix = .int .i64 q ∧ q ≤ kn ∧ ok = .bool true ∧ Hid (Below w.heap.size w wr ∧ (Boxed wr B V x) ∧ (Boxed wr (B + 1) U y) ∧ (wr.ownsRow w1.heap.size 5 1 (.slice (some ⟨g, 0, none⟩) (n + 3) cc) (n + 3) ((toI LL).map (Value.int .u8))) ∧ (DOk wr u.d da m m) ∧ (UAt wr OU u da m m) ∧ (TOk wr t la ln os dt mt mt) ∧ (TAt wr OT t la ln lc dt mt mt) ∧ (OptsAt wr ga ls))) (fun ix _ _ => kn - (intOf ix).toNat)
  case atStart => exact ⟨0, rfl, Nat.zero_le _, rfl, bel7, HX7.out, HY7.out, HR7.out, HDU7.out, HOU7.out, HDT7.out, HOT7.out, HLS7.out⟩
  case round =>
    obtain ⟨q, rfl, hq, rfl, HI⟩ := hrel
    by_cases hlt : q < kn
    · obtain ⟨hbw, hHX, hHY, hHR, hHDU, hHOU, hHDT, hHOT, hHLS⟩ := HI.out
      obtain ⟨op, hop⟩ : ∃ op, ls[q]? = some op := ⟨_, List.getElem?_eq_getElem (by rw [HKN.out]; exact hlt)⟩
      obtain ⟨bl, ofl, hla, hlb, ok1, c10, c11⟩ := OptsAt.at hHLS q op hop
      have hoc := HLC.out op (List.mem_of_getElem? hop)
      obtain ⟨DD, hDD⟩ : ∃ DD, DD = op.d.length := ⟨_, rfl⟩
      rw [hoc, ← hDD] at c11
      have HSGO : Hid (Seg .u8 wr op.a (toI op.d)) := ok1.seg
      have hdl : (toI op.d).length = DD := by rw [toI_len]; exact hDD.symm
      have hnil : op.a = none → DD = 0 := fun e => by
        have h1 := ok1.seg
        rw [e] at h1
        rw [← hdl, seg_none h1]
        rfl
      have hD40 : DD ≤ 1048576 := by
        have h1 := HBIG.out op (List.mem_of_getElem? hop)
        omega
      have k0 : (0 : Int) ≤ (q : Int) := by omega
      have k1 : (q : Int) < (kn : Int) := by omega
      have k2 : ((q : Int)).toNat = q := by omega
      have wk : IntKind.i64.wrap ((q : Int) + 1) = (q : Int) + 1 := by rw [IntKind.wrap_i64]; omega
      have wD : IntKind.i64.wrap ((DD : Int) + 3) = (DD : Int) + 3 := by rw [IntKind.wrap_i64]; omega
      have qD : (((DD + 3 : Nat) : Int) == (DD : Int) + 3) = true := by simp
      have HC11 : Hid (∀ A, Below wr.heap.size wr A → A.cell? ⟨bl, ofl + q * 2 + 1, none⟩ = some (.slice op.a DD DD)) := fun A hA => (hA.cell (p := ⟨bl, ofl + q * 2 + 1, none⟩) hlb).trans c11
      have HLA : Hid (ga = some ⟨bl, ofl, none⟩) := hla
      rw [hla]
      clear hop hla ok1 hoc hDD c10 hlb
      clear hHX hHY hHR hHDU hHOU hHDT hHOT hHLS hbw
      go_wp2_with (first | (at_builtin; refine append_win rfl (.tmp 67) (.tmp 68) 25 rfl 5 i0 (.int .u8 0) 1 Tryd.underlying25 hi hz0 hz1 hz2 rfl op.a DD (toI op.d) rfl hdl (HSGO.out.old ((Below.refl _ _).alloc (Nat.le_refl _) _)) hnil ⟨wr.heap.size, 0, none⟩ 3 3 [7, 8, 9] rfl rfl (seg_newz wr [7, 8, 9] 5) (by decide) (by unfold maxLen; omega) (by omega) ?_))
      intro v8 w8 ho8 hg8
      obtain ⟨g8, c8, rfl⟩ := owns_some ho8 (by omega)
      have b78 : Below wr.heap.size wr w8 := ((Below.refl _ _).alloc (Nat.le_refl _) (.cells #[.int .u8 7, .int .u8 8, .int .u8 9] 5)).trans (hg8.mono (by simp))
      obtain ⟨hbw, hHX, hHY, hHR, hHDU, hHOU, hHDT, hHOT, hHLS⟩ := HI.out
      have HI8 : Hid (Below w.heap.size w w8 ∧ (Boxed w8 B V x) ∧ (Boxed w8 (B + 1) U y) ∧ (w8.ownsRow w1.heap.size 5 1 (.slice (some ⟨g, 0, none⟩) (n + 3) cc) (n + 3) ((toI LL).map (Value.int .u8))) ∧ (DOk w8 u.d da m m) ∧ (UAt w8 OU u da m m) ∧ (TOk w8 t la ln os dt mt mt) ∧ (TAt w8 OT t la ln lc dt mt mt) ∧ (OptsAt w8 ga ls)) := ⟨bthen hbw b78, hHX.old b78, hHY.old b78, owns_below hHR b78, hHDU.old b78, UAt.below hHOU b78, hHDT.old b78, TAt.below hHOT b78, OptsAt.old hHLS b78⟩
      have QK : Hid _ := HKE.out w8 HI8.out.1 (by have := HI8.out; obtain ⟨hbw, hHX, hHY, hHR, hHDU, hHOU, hHDT, hHOT, hHLS⟩ := this; exact hHR)
      have y11 := HC11.out w8 b78
      clear hHX hHY hHR hHDU hHOU hHDT hHOT hHLS hbw ho8 hg8 b78 HSGO hdl c11 HI 
      go_wp2_with fail
      refine Calls.mono QK.out ?_
      rintro e w9 ⟨rfl, rfl⟩
      go_wp2
      go_roundw
      case rel => exact ⟨q + 1, by go_num, by omega, rfl, (by rw [← HLA.out]; exact HI8)⟩
      case measure => simp [intOf]; omega
    · have hni : ¬ ((q : Int) < (kn : Int)) := by omega
      obtain ⟨hbw, hHX, hHY, hHR, hHDU, hHOU, hHDT, hHOT, hHLS⟩ := HI.out
      have bel8 : Below w.heap.size w wr := hbw
      obtain ⟨w8, hw8⟩ : ∃ w8, w8 = wr := ⟨_, rfl⟩
      rw [← hw8] at bel8 hHX hHY hHR hHDU hHOU hHDT hHOT hHLS ⊢
      have HX8 : Hid (Boxed w8 B V x) := hHX
      have HY8 : Hid (Boxed w8 (B + 1) U y) := hHY
      have HR8 : Hid (w8.ownsRow w1.heap.size 5 1 (.slice (some ⟨g, 0, none⟩) (n + 3) cc) (n + 3) ((toI LL).map (Value.int .u8))) := hHR
      have HDU8 : Hid (DOk w8 u.d da m m) := hHDU
      have HOU8 : Hid (UAt w8 OU u da m m) := hHOU
      have HDT8 : Hid (TOk w8 t la ln os dt mt mt) := hHDT
      have HOT8 : Hid (TAt w8 OT t la ln lc dt mt mt) := hHOT
      have HLS8 : Hid (OptsAt w8 ga ls) := hHLS
      clear hw8 hHX hHY hHR hHDU hHOU hHDT hHOT hHLS hbw HI hlt hq HX7 HY7 HR7 HDU7 HOU7 HDT7 HOT7 HLS7 bel7
      go_wp2
      go_loopw [20, 9] (fun ix ok wr => ∃ q : Nat, ix = .int .i64 q ∧ q ≤ ln ∧ ok = .bool true ∧ Hid (Below w.heap.size w wr ∧ (Boxed wr B V x) ∧ (Boxed wr (B + 1) U y) ∧ (wr.ownsRow w1.heap.size 5 1 (.slice (some ⟨g, 0, none⟩) (n + 3) cc) (n + 3) ((toI LL).map (Value.int .u8))) ∧ (DOk wr u.d da m m) ∧ (UAt wr OU u da m m) ∧ (TOk wr t la ln os dt mt mt) ∧ (TAt wr OT t la ln lc dt mt mt) ∧ (OptsAt wr ga ls))) (fun ix _ _ => ln - (intOf ix).toNat)
      case atStart => exact ⟨0, rfl, Nat.zero_le _, rfl, bel8, HX8.out, HY8.out, HR8.out, HDU8.out, HOU8.out, HDT8.out, HOT8.out, HLS8.out⟩
      case round =>
        obtain ⟨q, rfl, hq, rfl, HI⟩ := hrel
        by_cases hlt : q < ln
        · obtain ⟨hbw, hHX, hHY, hHR, hHDU, hHOU, hHDT, hHOT, hHLS⟩ := HI.out
          obtain ⟨op, hop⟩ : ∃ op, os[q]? = some op := ⟨_, List.getElem?_eq_getElem (by rw [HDT8.out.ol]; exact hlt)⟩
          obtain ⟨bl, ofl, hla, hlb, ok1, c10, c11⟩ := OptsAt.at hHDT.oat q op hop
          have hoc := HOC.out op (List.mem_of_getElem? hop)
          obtain ⟨DD, hDD⟩ : ∃ DD, DD = op.d.length := ⟨_, rfl⟩
          rw [hoc, ← hDD] at c11
          have HSGO : Hid (Seg .u8 wr op.a (toI op.d)) := ok1.seg
          have hdl : (toI op.d).length = DD := by rw [toI_len]; exact hDD.symm
          have hnil : op.a = none → DD = 0 := fun e => by
            have h1 := ok1.seg
            rw [e] at h1
            rw [← hdl, seg_none h1]
            rfl
          have hD40 : DD ≤ 1048576 := by
            have h1 := HBIGT.out op (List.mem_of_getElem? hop)
            omega
          have k0 : (0 : Int) ≤ (q : Int) := by omega
          have k1 : (q : Int) < (ln : Int) := by omega
          have k2 : ((q : Int)).toNat = q := by omega
          have wk : IntKind.i64.wrap ((q : Int) + 1) = (q : Int) + 1 := by rw [IntKind.wrap_i64]; omega
          have wD : IntKind.i64.wrap ((DD : Int) + 3) = (DD : Int) + 3 := by rw [IntKind.wrap_i64]; omega
          have qD : (((DD + 3 : Nat) : Int) == (DD : Int) + 3) = true := by simp
          have HC11 : Hid (∀ A, Below wr.heap.size wr A → A.cell? ⟨bl, ofl + q * 2 + 1, none⟩ = some (.slice op.a DD DD)) := fun A hA => (hA.cell (p := ⟨bl, ofl + q * 2 + 1, none⟩) hlb).trans c11
          have HLA : Hid (la = some ⟨bl, ofl, none⟩) := hla
          have t7 := TAt.c7 hHOT
          rw [hla] at t7
          clear hop hla ok1 hoc hDD c10 hlb
          clear hHX hHY hHR hHDU hHOU hHDT hHOT hHLS hbw
          go_wp2_with (first | (at_builtin; refine append_win rfl (.tmp 100) (.tmp 101) 25 rfl 5 i0 (.int .u8 0) 1 Tryd.underlying25 hi hz0 hz1 hz2 rfl op.a DD (toI op.d) rfl hdl (HSGO.out.old ((Below.refl _ _).alloc (Nat.le_refl _) _)) hnil ⟨wr.heap.size, 0, none⟩ 3 3 [7, 8, 9] rfl rfl (seg_newz wr [7, 8, 9] 5) (by decide) (by unfold maxLen; omega) (by omega) ?_))
          intro v8 w8 ho8 hg8
          obtain ⟨g8, c8, rfl⟩ := owns_some ho8 (by omega)
          have b78 : Below wr.heap.size wr w8 := ((Below.refl _ _).alloc (Nat.le_refl _) (.cells #[.int .u8 7, .int .u8 8, .int .u8 9] 5)).trans (hg8.mono (by simp))
          obtain ⟨hbw, hHX, hHY, hHR, hHDU, hHOU, hHDT, hHOT, hHLS⟩ := HI.out
          have HI8 : Hid (Below w.heap.size w w8 ∧ (Boxed w8 B V x) ∧ (Boxed w8 (B + 1) U y) ∧ (w8.ownsRow w1.heap.size 5 1 (.slice (some ⟨g, 0, none⟩) (n + 3) cc) (n + 3) ((toI LL).map (Value.int .u8))) ∧ (DOk w8 u.d da m m) ∧ (UAt w8 OU u da m m) ∧ (TOk w8 t la ln os dt mt mt) ∧ (TAt w8 OT t la ln lc dt mt mt) ∧ (OptsAt w8 ga ls)) := ⟨bthen hbw b78, hHX.old b78, hHY.old b78, owns_below hHR b78, hHDU.old b78, UAt.below hHOU b78, hHDT.old b78, TAt.below hHOT b78, OptsAt.old hHLS b78⟩
          have QK : Hid _ := HKE.out w8 HI8.out.1 (by have := HI8.out; obtain ⟨hbw, hHX, hHY, hHR, hHDU, hHOU, hHDT, hHOT, hHLS⟩ := this; exact hHR)
          have y11 := HC11.out w8 b78
          have t8 := TAt.c7 (TAt.below hHOT b78)
          rw [HLA.out] at t8
          clear hHX hHY hHR hHDU hHOU hHDT hHOT hHLS hbw ho8 hg8 b78 HSGO hdl c11 HI t7
          go_wp2_with fail
          refine Calls.mono QK.out ?_
          rintro e w9 ⟨rfl, rfl⟩
          go_wp2
          go_roundw
          case rel => exact ⟨q + 1, by go_num, by omega, rfl, HI8⟩
          case measure => simp [intOf]; omega
        · have hni : ¬ ((q : Int) < (ln : Int)) := by omega
          obtain ⟨hbw, hHX, hHY, hHR, hHDU, hHOU, hHDT, hHOT, hHLS⟩ := HI.out
          have bel9 : Below w.heap.size w wr := hbw
          obtain ⟨w9, hw9⟩ : ∃ w9, w9 = wr := ⟨_, rfl⟩
          rw [← hw9] at bel9 hHX hHY hHR hHDU hHOU hHDT hHOT hHLS ⊢
          have HX9 : Hid (Boxed w9 B V x) := hHX
          have HY9 : Hid (Boxed w9 (B + 1) U y) := hHY
          have HR9 : Hid (w9.ownsRow w1.heap.size 5 1 (.slice (some ⟨g, 0, none⟩) (n + 3) cc) (n + 3) ((toI LL).map (Value.int .u8))) := hHR
          have HDU9 : Hid (DOk w9 u.d da m m) := hHDU
          have HOU9 : Hid (UAt w9 OU u da m m) := hHOU
          have HDT9 : Hid (TOk w9 t la ln os dt mt mt) := hHDT
          have HOT9 : Hid (TAt w9 OT t la ln lc dt mt mt) := hHOT
          have HLS9 : Hid (OptsAt w9 ga ls) := hHLS
          clear hw9 hHX hHY hHR hHDU hHOU hHDT hHOT hHLS hbw HI hlt hq HX8 HY8 HR8 HDU8 HOU8 HDT8 HOT8 HLS8 bel8
          have t7 := TAt.c7 HOT9.out
          go_upto_region 19 with fail
          clear t7 hni
          have cf9 := HOU9.out.c3
          have hnil9 : da = none → m = 0 := fun e => by
            have h1 := HDU9.out.seg
            rw [e] at h1
            have h2 := HDU9.out.dl
            have h3 := seg_none h1
            rw [← h2, ← toI_len, h3]
            rfl
          have hsz9 : m ≤ 1048576 := by have := HMN.out; omega
          have hdl9 : (toI u.d).length = m := by rw [toI_len]; exact HDU9.out.dl
          have hsg9 := HDU9.out.seg
          go_wp2_with (first | (at_builtin; refine append_win rfl (.tmp 122) (.tmp 123) 25 rfl 5 i0 (.int .u8 0) 1 Tryd.underlying25 hi hz0 hz1 hz2 rfl da m (toI u.d) rfl hdl9 (hsg9.old ((Below.refl _ _).alloc (Nat.le_refl _) _)) hnil9 ⟨w9.heap.size, 0, none⟩ 3 3 [7, 8, 9] rfl rfl (seg_newz w9 [7, 8, 9] 5) (by decide) (by unfold maxLen; omega) (by omega) ?_))
          intro v10 w10 ho10 hg10
          obtain ⟨g10, c10, rfl⟩ := owns_some ho10 (by omega)
          have hb10 : Below w9.heap.size w9 w10 := ((Below.refl _ _).alloc (Nat.le_refl _) (.cells #[.int .u8 7, .int .u8 8, .int .u8 9] 5)).trans (hg10.mono (by simp))
          clear ho10 hg10 hnil9 hdl9 hsg9 cf9 hsz9
          have bel10 := bthen bel9 hb10
          have HX10 : Hid (Boxed w10 B V x) := HX9.out.old hb10
          have HY10 : Hid (Boxed w10 (B + 1) U y) := HY9.out.old hb10
          have HR10 : Hid (w10.ownsRow w1.heap.size 5 1 (.slice (some ⟨g, 0, none⟩) (n + 3) cc) (n + 3) ((toI LL).map (Value.int .u8))) := owns_below HR9.out hb10
          have HDU10 : Hid (DOk w10 u.d da m m) := HDU9.out.old hb10
          have HOU10 : Hid (UAt w10 OU u da m m) := UAt.below HOU9.out hb10
          have HDT10 : Hid (TOk w10 t la ln os dt mt mt) := HDT9.out.old hb10
          have HOT10 : Hid (TAt w10 OT t la ln lc dt mt mt) := TAt.below HOT9.out hb10
          have HLS10 : Hid (OptsAt w10 ga ls) := OptsAt.old HLS9.out hb10
          clear HX9 HY9 HR9 HDU9 HOU9 HDT9 HOT9 HLS9
          clear hb10
          have cf10 := HOT10.out.c8
          have hnil10 : dt = none → mt = 0 := fun e => by
            have h1 := HDT10.out.d.seg
            rw [e] at h1
            have h2 := HDT10.out.d.dl
            have h3 := seg_none h1
            rw [← h2, ← toI_len, h3]
            rfl
          have hsz10 : mt ≤ 1048576 := by have := HTN.out; omega
          have hdl10 : (toI t.d).length = mt := by rw [toI_len]; exact HDT10.out.d.dl
          have hsg10 := HDT10.out.d.seg
          go_wp2_with (first | (at_builtin; refine append_win rfl (.tmp 126) (.tmp 127) 25 rfl 5 i0 (.int .u8 0) 1 Tryd.underlying25 hi hz0 hz1 hz2 rfl dt mt (toI t.d) rfl hdl10 (hsg10.old ((Below.refl _ _).alloc (Nat.le_refl _) _)) hnil10 ⟨w10.heap.size, 0, none⟩ 3 3 [7, 8, 9] rfl rfl (seg_newz w10 [7, 8, 9] 5) (by decide) (by unfold maxLen; omega) (by omega) ?_))
          intro v11 w11 ho11 hg11
          obtain ⟨g11, c11, rfl⟩ := owns_some ho11 (by omega)
          have hb11 : Below w10.heap.size w10 w11 := ((Below.refl _ _).alloc (Nat.le_refl _) (.cells #[.int .u8 7, .int .u8 8, .int .u8 9] 5)).trans (hg11.mono (by simp))
          clear ho11 hg11 hnil10 hdl10 hsg10 cf10 hsz10
          have bel11 := bthen bel10 hb11
          have HX11 : Hid (Boxed w11 B V x) := HX10.out.old hb11
          have HY11 : Hid (Boxed w11 (B + 1) U y) := HY10.out.old hb11
          have HR11 : Hid (w11.ownsRow w1.heap.size 5 1 (.slice (some ⟨g, 0, none⟩) (n + 3) cc) (n + 3) ((toI LL).map (Value.int .u8))) := owns_below HR10.out hb11
          have HDU11 : Hid (DOk w11 u.d da m m) := HDU10.out.old hb11
          have HOU11 : Hid (UAt w11 OU u da m m) := UAt.below HOU10.out hb11
          have HDT11 : Hid (TOk w11 t la ln os dt mt mt) := HDT10.out.old hb11
          have HOT11 : Hid (TAt w11 OT t la ln lc dt mt mt) := TAt.below HOT10.out hb11
          have HLS11 : Hid (OptsAt w11 ga ls) := OptsAt.old HLS10.out hb11
          clear HX10 HY10 HR10 HDU10 HOU10 HDT10 HOT10 HLS10
          clear hb11
          have QK : Hid _ := HKE.out w11 bel11 HR11.out
          go_wp2_with fail
          refine Calls.mono QK.out ?_
          rintro e w12 ⟨rfl, rfl⟩
          clear QK
          have u3 := HOU11.out.c3
          have m3 : (3 : Int) ≤ ((m + 3 : Nat) : Int) := by omega
          have mt3 : (3 : Int) ≤ ((mt + 3 : Nat) : Int) := by omega
          go_upto_region 25 with fail
          clear u3 m3 mt3
          by_cases hz : er = 0
          · obtain ⟨hmn, hda⟩ := HU1.out hz
            have HDA : Hid (0 < m → da = some ⟨g, 8, none⟩) := fun h0 => by rw [hda]; unfold cutA; rw [if_neg (by omega)]; rfl
            clear hda
            subst hz
            go_wp2_with fail
            refine Calls.mono (num9_any 0 _) ?_
            rintro e wn ⟨rfl, rfl⟩
            have HSETW : Hid (∀ A, Ch (fun q => q = g) w11 A → Below w.heap.size w A) := fun A hA => bel11.trans (hA.below (fun q e => by have e' : q = g := e; have := HWG.out; omega) bel11.size)
            have HRX : Hid (w11.ownsRow w1.heap.size 5 1 (.slice (some ⟨g, 0, none⟩) (n + 3) cc) (n + 3) ((toI (xr LL 8 0 c)).map (Value.int .u8))) := by rw [xr_zero]; exact HR11.out
            go_wp2
            go_loopw [26] (fun ix wr => ∃ j : Nat, ix = .int .i64 j ∧ j ≤ m ∧ Hid (Ch (fun q => q = g) w11 wr ∧ wr.ownsRow w1.heap.size 5 1 (.slice (some ⟨g, 0, none⟩) (n + 3) cc) (n + 3) ((toI (xr LL 8 j c)).map (Value.int .u8)))) (fun ix _ => m - (intOf ix).toNat)
            case atStart => exact ⟨0, rfl, Nat.zero_le _, Ch.refl _ _, HRX.out⟩
            case round =>
              obtain ⟨j, rfl, hj, HI⟩ := hrel
              by_cases hjl : j < m
              · have hda := HDA.out (by omega)
                rw [hda]
                have hpl : 8 + j < n + 3 := by omega
                obtain ⟨g', o', e1, hcs⟩ := seg_at (owns_at HI.out.2).1 0 (by rw [xr_len, HLN.out]; omega)
                have e2 := Option.some.inj e1
                simp only [Addr.mk.injEq, and_true] at e2
                obtain ⟨rfl, rfl⟩ := e2
                have cx := hcs (8 + j) (by rw [xr_len, HLN.out]; exact hpl)
                rw [Nat.zero_add, xr_next _ _ _ _ (by rw [HLN.out]; exact hpl)] at cx
                have zx := own_fz6 HI.out.2 (8 + j)
                have xl : LL.getD (8 + j) 0 < 256 := I4.getD_lt _ HL256.out _
                have hnew := set_own6 (i := 8 + j) (y := LL.getD (8 + j) 0 ^^^ c) HI.out.2 (by rw [xr_len, HLN.out])
                rw [xr_step] at hnew
                obtain ⟨xv, hxv⟩ : ∃ xv, xv = LL.getD (8 + j) 0 := ⟨_, rfl⟩
                rw [← hxv] at cx xl hnew
                have HNW : Hid (Ch (fun q => q = g) w11 (wr.setCell ⟨g, 8 + j, none⟩ (.int .u8 ((xv ^^^ c : Nat) : Int))) ∧ (wr.setCell ⟨g, 8 + j, none⟩ (.int .u8 ((xv ^^^ c : Nat) : Int))).ownsRow w1.heap.size 5 1 (.slice (some ⟨g, 0, none⟩) (n + 3) cc) (n + 3) ((toI (xr LL 8 (j + 1) c)).map (Value.int .u8))) := ⟨HI.out.1.set _ _ rfl, hnew⟩
                have xb : bits .xor .u8 (xv : Int) (c : Int) = ((xv ^^^ c : Nat) : Int) := u8_xor_nat xv c xl lc256
                have j0 : (0 : Int) ≤ (j : Int) := by omega
                have j1 : (j : Int) < (m : Int) := by omega
                have j2' : ((j : Int)).toNat = j := by omega
                have wj : IntKind.i64.wrap ((j : Int) + 1) = (j : Int) + 1 := by rw [IntKind.wrap_i64]; omega
                clear e1 hcs hnew hxv HI hda
                go_wp2
                go_roundw
                case rel => exact ⟨j + 1, by go_num, by omega, HNW⟩
                case measure => simp [intOf]; omega
              · have hni : ¬ ((j : Int) < (m : Int)) := by omega
                have ej : j = m := by omega
                have HXD : Hid (Ch (fun q => q = g) w11 wr ∧ wr.ownsRow w1.heap.size 5 1 (.slice (some ⟨g, 0, none⟩) (n + 3) cc) (n + 3) ((toI (xr LL 8 m c)).map (Value.int .u8))) := by have h1 := HI.out; rw [ej] at h1; exact h1
                obtain ⟨w13, hw13⟩ : ∃ w13, w13 = wr := ⟨_, rfl⟩
                rw [← hw13] at HXD ⊢
                clear hjl ej HI hj hw13
                go_wp2
                go_loopw [27] (fun ix wr => ∃ j : Nat, ix = .int .i64 j ∧ j ≤ m ∧ Hid (Below w13.heap.size w13 wr)) (fun ix _ => m - (intOf ix).toNat)
                case atStart => exact ⟨0, rfl, Nat.zero_le _, Below.refl _ _⟩
                case round =>
                  obtain ⟨j, rfl, hj, HI⟩ := hrel
                  by_cases hjl : j < m
                  · have hpl : 8 + j < n := by omega
                    have hrow := owns_below HXD.out.2 HI.out
                    obtain ⟨g', o', e1, hcs⟩ := seg_at (owns_at hrow).1 0 (by rw [xr_len, HLN.out]; omega)
                    have e2 := Option.some.inj e1
                    simp only [Addr.mk.injEq, and_true] at e2
                    obtain ⟨rfl, rfl⟩ := e2
                    have cx := hcs (8 + j) (by rw [xr_len, HLN.out]; omega)
                    rw [Nat.zero_add, xr_get _ _ _ _ _ (by rw [HLN.out]; omega), if_pos (by omega)] at cx
                    have eLL : LL.getD (8 + j) 0 = bs.getD (8 + j) 0 := by
                      rw [HLL.out]
                      simp only [List.getD]
                      rw [List.getElem?_append_left (by rw [HK.out.dl]; exact hpl)]
                    rw [eLL] at cx
                    have bA : Below w.heap.size w wr := bthen (HSETW.out w13 HXD.out.1) HI.out
                    obtain ⟨bb, bo, hba, hbc⟩ := seg_at (HK.out.old bA).seg 0 (by rw [HK.out.dl]; omega)
                    have cy := hbc (8 + j) (by rw [HK.out.dl]; exact hpl)
                    have xl : bs.getD (8 + j) 0 < 256 := I4.getD_lt _ HK.out.d256 _
                    obtain ⟨xv, hxv⟩ : ∃ xv, xv = bs.getD (8 + j) 0 := ⟨_, rfl⟩
                    rw [← hxv] at cx cy xl
                    have HCX : Hid (∀ A, Below wr.heap.size wr A → A.cell? ⟨g, 8 + j, none⟩ = some (.int .u8 ((xv ^^^ c : Nat) : Int))) := fun A hA => (hA.cell (p := ⟨g, 8 + j, none⟩) (hrow.lt g rfl).2).trans cx
                    have hbl : bb < wr.heap.size := by
                      rcases Nat.lt_or_ge bb wr.heap.size with h | h
                      · exact h
                      · exfalso
                        rw [World.cell?] at cy
                        simp [Array.getElem?_eq_none h] at cy
                    have HCY : Hid (∀ A, Below wr.heap.size wr A → A.cell? ⟨bb, bo + (8 + j), none⟩ = some (.int .u8 (xv : Int))) := fun A hA => (hA.cell (p := ⟨bb, bo + (8 + j), none⟩) hbl).trans cy
                    have xb : bits .xor .u8 (xv : Int) (c : Int) = ((xv ^^^ c : Nat) : Int) := u8_xor_nat xv c xl lc256
                    have j0 : (0 : Int) ≤ (j : Int) := by omega
                    have j1 : (j : Int) < (m : Int) := by omega
                    obtain ⟨fj, hfj⟩ : ∃ fj, fj = 8 + j := ⟨_, rfl⟩
                    have wf : IntKind.i64.wrap ((8 : Int) + (j : Int)) = (fj : Int) := by rw [IntKind.wrap_i64]; omega
                    have wf2 : (8 : Int) + (j : Int) = (fj : Int) := by omega
                    have f0 : (0 : Int) ≤ (fj : Int) := by omega
                    have f1 : (fj : Int) < ((n + 3 : Nat) : Int) := by omega
                    have f1' : (fj : Int) < (n : Int) + 3 := by omega
                    have f2 : (fj : Int) < (n : Int) := by omega
                    have f3 : ((fj : Int)).toNat = fj := by omega
                    rw [← hfj] at HCX HCY
                    have wj : IntKind.i64.wrap ((j : Int) + 1) = (j : Int) + 1 := by rw [IntKind.wrap_i64]; omega
                    have HHI : Hid (Below w13.heap.size w13 wr) := HI.out
                    rw [hba]
                    clear e1 hcs hrow cx cy hbc hba hxv HI eLL bA hbl hpl hfj xl
                    go_upto_region 37 with fail
                    refine MixH.start (fun A => Below wr.heap.size wr A) (by kernel_rfl) ?_
                    obtain ⟨wA, hwA⟩ : ∃ wA, wA = wr.drew := ⟨_, rfl⟩
                    have hS : Below wr.heap.size wr wA := by rw [hwA]; exact (Below.refl _ _).drew
                    rw [← hwA]
                    clear hwA
                    refine MixH.takes [true, true, true, true, true, false, true, true, true, true, true, false, true] 4 (by kernel_rfl) (by kernel_rfl) (by decide) (by kernel_rfl) hS (fun K hK => ?_)
                    simp only [Mix.pick]
                    repeat (go_big_quiet_step (fail))
                    refine wpQuiet_nil (hK _ ?_)
                    clear hK K
                    refine MixH.take 3 5 _ (.int .u8 ((xv ^^^ c : Nat) : Int)) rfl (by kernel_rfl) (by kernel_rfl) (by kernel_rfl) (by kernel_rfl) (yields_u8w (.tmp 196) rfl ⟨g, fj, none⟩ _ rfl rfl HCX.out) hS (fun a' ha => ?_)
                    simp only [Act.put, List.setIfInBounds_toArray, List.set_cons_succ, List.set_cons_zero] at ha
                    subst ha
                    refine MixH.take 2 11 _ (.int .u8 (xv : Int)) rfl (by kernel_rfl) (by kernel_rfl) (by kernel_rfl) (by kernel_rfl) (yields_u8w (.tmp 202) rfl ⟨bb, bo + fj, none⟩ _ rfl rfl HCY.out) hS (fun a' ha => ?_)
                    simp only [Act.put, List.setIfInBounds_toArray, List.set_cons_succ, List.set_cons_zero] at ha
                    subst ha
                    refine MixH.takes [false, false, false, false, false, false, false, false, false, false, false, false, false, true, true] 0 (by kernel_rfl) (by kernel_rfl) (by decide) (by kernel_rfl) hS (fun K hK => ?_)
                    simp only [Mix.pick]
                    repeat (go_big_quiet_step (fail))
                    refine wpQuiet_nil (hK _ ?_)
                    clear hK K
                    refine MixH.done (by kernel_rfl) ?_
                    have hSF : Below w13.heap.size w13 wA := bthen HHI.out hS
                    clear hS
                    go_wp2
                    go_roundw
                    case rel => exact ⟨j + 1, by go_num, by omega, hSF⟩
                    case measure => simp [intOf]; omega
                  · have hni : ¬ ((j : Int) < (m : Int)) := by omega
                    have hF : Below w.heap.size w wr := bthen (HSETW.out w13 HXD.out.1) HI.out
                    clear hjl hj HI
                    go_wp2
                    go_ret
                    exact ⟨rfl, hF⟩
          · have be : ((er : Int) != 0) = true := by rw [bne_iff_ne]; omega
            go_wp2_with fail
            refine Calls.mono (num9_any (er : Int) _) ?_
            rintro e wn ⟨rfl, rfl⟩
            clear be
            by_cases hzt : eh = 0
            · obtain ⟨hfr, hdt⟩ := HT1.out hzt
              obtain ⟨fr, hfr0⟩ : ∃ fr, fr = L4.tH bs := ⟨_, rfl⟩
              rw [← hfr0] at hfr hdt
              have HDA : Hid (0 < mt → dt = some ⟨g, fr, none⟩) := fun h0 => by
                rw [hdt]
                unfold cutA
                rw [if_neg (by omega)]
                simp [Addr.add]
                omega
              have hmn : fr + mt ≤ n := by omega
              have t8 := HOT11.out.c8
              have wfr : IntKind.i64.wrap ((n : Int) - (mt : Int)) = (fr : Int) := by rw [IntKind.wrap_i64]; omega
              have wfr2 : (n : Int) - (mt : Int) = (fr : Int) := by omega
              clear hdt hfr0 hfr
              subst hzt
              go_wp2_with fail
              refine Calls.mono (num9_any 0 _) ?_
              rintro e wn ⟨rfl, rfl⟩
              go_upto_region 30 with fail
              clear t8 wfr wfr2
              have HSETW : Hid (∀ A, Ch (fun q => q = g) w11 A → Below w.heap.size w A) := fun A hA => bel11.trans (hA.below (fun q e => by have e' : q = g := e; have := HWG.out; omega) bel11.size)
              have HRX : Hid (w11.ownsRow w1.heap.size 5 1 (.slice (some ⟨g, 0, none⟩) (n + 3) cc) (n + 3) ((toI (xr LL fr 0 c)).map (Value.int .u8))) := by rw [xr_zero]; exact HR11.out
              go_wp2
              go_loopw [26] (fun ix wr => ∃ j : Nat, ix = .int .i64 j ∧ j ≤ mt ∧ Hid (Ch (fun q => q = g) w11 wr ∧ wr.ownsRow w1.heap.size 5 1 (.slice (some ⟨g, 0, none⟩) (n + 3) cc) (n + 3) ((toI (xr LL fr j c)).map (Value.int .u8)))) (fun ix _ => mt - (intOf ix).toNat)
              case atStart => exact ⟨0, rfl, Nat.zero_le _, Ch.refl _ _, HRX.out⟩
              case round =>
                obtain ⟨j, rfl, hj, HI⟩ := hrel
                by_cases hjl : j < mt
                · have hda := HDA.out (by omega)
                  rw [hda]
                  have hpl : fr + j < n + 3 := by omega
                  obtain ⟨g', o', e1, hcs⟩ := seg_at (owns_at HI.out.2).1 0 (by rw [xr_len, HLN.out]; omega)
                  have e2 := Option.some.inj e1
                  simp only [Addr.mk.injEq, and_true] at e2
                  obtain ⟨rfl, rfl⟩ := e2
                  have cx := hcs (fr + j) (by rw [xr_len, HLN.out]; exact hpl)
                  rw [Nat.zero_add, xr_next _ _ _ _ (by rw [HLN.out]; exact hpl)] at cx
                  have zx := own_fz6 HI.out.2 (fr + j)
                  have xl : LL.getD (fr + j) 0 < 256 := I4.getD_lt _ HL256.out _
                  have hnew := set_own6 (i := fr + j) (y := LL.getD (fr + j) 0 ^^^ c) HI.out.2 (by rw [xr_len, HLN.out])
                  rw [xr_step] at hnew
                  obtain ⟨xv, hxv⟩ : ∃ xv, xv = LL.getD (fr + j) 0 := ⟨_, rfl⟩
                  rw [← hxv] at cx xl hnew
                  have HNW : Hid (Ch (fun q => q = g) w11 (wr.setCell ⟨g, fr + j, none⟩ (.int .u8 ((xv ^^^ c : Nat) : Int))) ∧ (wr.setCell ⟨g, fr + j, none⟩ (.int .u8 ((xv ^^^ c : Nat) : Int))).ownsRow w1.heap.size 5 1 (.slice (some ⟨g, 0, none⟩) (n + 3) cc) (n + 3) ((toI (xr LL fr (j + 1) c)).map (Value.int .u8))) := ⟨HI.out.1.set _ _ rfl, hnew⟩
                  have xb : bits .xor .u8 (xv : Int) (c : Int) = ((xv ^^^ c : Nat) : Int) := u8_xor_nat xv c xl lc256
                  have j0 : (0 : Int) ≤ (j : Int) := by omega
                  have j1 : (j : Int) < (mt : Int) := by omega
                  have j2' : ((j : Int)).toNat = j := by omega
                  have wj : IntKind.i64.wrap ((j : Int) + 1) = (j : Int) + 1 := by rw [IntKind.wrap_i64]; omega
                  clear e1 hcs hnew hxv HI hda
                  go_wp2
                  go_roundw
                  case rel => exact ⟨j + 1, by go_num, by omega, HNW⟩
                  case measure => simp [intOf]; omega
                · have hni : ¬ ((j : Int) < (mt : Int)) := by omega
                  have ej : j = mt := by omega
                  have HXD : Hid (Ch (fun q => q = g) w11 wr ∧ wr.ownsRow w1.heap.size 5 1 (.slice (some ⟨g, 0, none⟩) (n + 3) cc) (n + 3) ((toI (xr LL fr mt c)).map (Value.int .u8))) := by have h1 := HI.out; rw [ej] at h1; exact h1
                  obtain ⟨w13, hw13⟩ : ∃ w13, w13 = wr := ⟨_, rfl⟩
                  rw [← hw13] at HXD ⊢
                  clear hjl ej HI hj hw13
                  go_wp2
                  go_loopw [27] (fun ix wr => ∃ j : Nat, ix = .int .i64 j ∧ j ≤ mt ∧ Hid (Below w13.heap.size w13 wr)) (fun ix _ => mt - (intOf ix).toNat)
                  case atStart => exact ⟨0, rfl, Nat.zero_le _, Below.refl _ _⟩
                  case round =>
                    obtain ⟨j, rfl, hj, HI⟩ := hrel
                    by_cases hjl : j < mt
                    · have hpl : fr + j < n := by omega
                      have hrow := owns_below HXD.out.2 HI.out
                      obtain ⟨g', o', e1, hcs⟩ := seg_at (owns_at hrow).1 0 (by rw [xr_len, HLN.out]; omega)
                      have e2 := Option.some.inj e1
                      simp only [Addr.mk.injEq, and_true] at e2
                      obtain ⟨rfl, rfl⟩ := e2
                      have cx := hcs (fr + j) (by rw [xr_len, HLN.out]; omega)
                      rw [Nat.zero_add, xr_get _ _ _ _ _ (by rw [HLN.out]; omega), if_pos (by omega)] at cx
                      have eLL : LL.getD (fr + j) 0 = bs.getD (fr + j) 0 := by
                        rw [HLL.out]
                        simp only [List.getD]
                        rw [List.getElem?_append_left (by rw [HK.out.dl]; exact hpl)]
                      rw [eLL] at cx
                      have bA : Below w.heap.size w wr := bthen (HSETW.out w13 HXD.out.1) HI.out
                      obtain ⟨bb, bo, hba, hbc⟩ := seg_at (HK.out.old bA).seg 0 (by rw [HK.out.dl]; omega)
                      have cy := hbc (fr + j) (by rw [HK.out.dl]; exact hpl)
                      have xl : bs.getD (fr + j) 0 < 256 := I4.getD_lt _ HK.out.d256 _
                      obtain ⟨xv, hxv⟩ : ∃ xv, xv = bs.getD (fr + j) 0 := ⟨_, rfl⟩
                      rw [← hxv] at cx cy xl
                      have HCX : Hid (∀ A, Below wr.heap.size wr A → A.cell? ⟨g, fr + j, none⟩ = some (.int .u8 ((xv ^^^ c : Nat) : Int))) := fun A hA => (hA.cell (p := ⟨g, fr + j, none⟩) (hrow.lt g rfl).2).trans cx
                      have hbl : bb < wr.heap.size := by
                        rcases Nat.lt_or_ge bb wr.heap.size with h | h
                        · exact h
                        · exfalso
                          rw [World.cell?] at cy
                          simp [Array.getElem?_eq_none h] at cy
                      have HCY : Hid (∀ A, Below wr.heap.size wr A → A.cell? ⟨bb, bo + (fr + j), none⟩ = some (.int .u8 (xv : Int))) := fun A hA => (hA.cell (p := ⟨bb, bo + (fr + j), none⟩) hbl).trans cy
                      have xb : bits .xor .u8 (xv : Int) (c : Int) = ((xv ^^^ c : Nat) : Int) := u8_xor_nat xv c xl lc256
                      have j0 : (0 : Int) ≤ (j : Int) := by omega
                      have j1 : (j : Int) < (mt : Int) := by omega
                      obtain ⟨fj, hfj⟩ : ∃ fj, fj = fr + j := ⟨_, rfl⟩
                      have wf : IntKind.i64.wrap ((fr : Int) + (j : Int)) = (fj : Int) := by rw [IntKind.wrap_i64]; omega
                      have wf2 : (fr : Int) + (j : Int) = (fj : Int) := by omega
                      have f0 : (0 : Int) ≤ (fj : Int) := by omega
                      have f1 : (fj : Int) < ((n + 3 : Nat) : Int) := by omega
                      have f1' : (fj : Int) < (n : Int) + 3 := by omega
                      have f2 : (fj : Int) < (n : Int) := by omega
                      have f3 : ((fj : Int)).toNat = fj := by omega
                      rw [← hfj] at HCX HCY
                      have wj : IntKind.i64.wrap ((j : Int) + 1) = (j : Int) + 1 := by rw [IntKind.wrap_i64]; omega
                      have HHI : Hid (Below w13.heap.size w13 wr) := HI.out
                      rw [hba]
                      clear e1 hcs hrow cx cy hbc hba hxv HI eLL bA hbl hpl hfj xl
                      go_upto_region 37 with fail
                      refine MixH.start (fun A => Below wr.heap.size wr A) (by kernel_rfl) ?_
                      obtain ⟨wA, hwA⟩ : ∃ wA, wA = wr.drew := ⟨_, rfl⟩
                      have hS : Below wr.heap.size wr wA := by rw [hwA]; exact (Below.refl _ _).drew
                      rw [← hwA]
                      clear hwA
                      refine MixH.takes [true, true, true, true, true, false, true, true, true, true, true, false, true] 4 (by kernel_rfl) (by kernel_rfl) (by decide) (by kernel_rfl) hS (fun K hK => ?_)
                      simp only [Mix.pick]
                      repeat (go_big_quiet_step (fail))
                      refine wpQuiet_nil (hK _ ?_)
                      clear hK K
                      refine MixH.take 3 5 _ (.int .u8 ((xv ^^^ c : Nat) : Int)) rfl (by kernel_rfl) (by kernel_rfl) (by kernel_rfl) (by kernel_rfl) (yields_u8w (.tmp 196) rfl ⟨g, fj, none⟩ _ rfl rfl HCX.out) hS (fun a' ha => ?_)
                      simp only [Act.put, List.setIfInBounds_toArray, List.set_cons_succ, List.set_cons_zero] at ha
                      subst ha
                      refine MixH.take 2 11 _ (.int .u8 (xv : Int)) rfl (by kernel_rfl) (by kernel_rfl) (by kernel_rfl) (by kernel_rfl) (yields_u8w (.tmp 202) rfl ⟨bb, bo + fj, none⟩ _ rfl rfl HCY.out) hS (fun a' ha => ?_)
                      simp only [Act.put, List.setIfInBounds_toArray, List.set_cons_succ, List.set_cons_zero] at ha
                      subst ha
                      refine MixH.takes [false, false, false, false, false, false, false, false, false, false, false, false, false, true, true] 0 (by kernel_rfl) (by kernel_rfl) (by decide) (by kernel_rfl) hS (fun K hK => ?_)
                      simp only [Mix.pick]
                      repeat (go_big_quiet_step (fail))
                      refine wpQuiet_nil (hK _ ?_)
                      clear hK K
                      refine MixH.done (by kernel_rfl) ?_
                      have hSF : Below w13.heap.size w13 wA := bthen HHI.out hS
                      clear hS
                      go_wp2
                      go_roundw
                      case rel => exact ⟨j + 1, by go_num, by omega, hSF⟩
                      case measure => simp [intOf]; omega
                    · have hni : ¬ ((j : Int) < (mt : Int)) := by omega
                      have hF : Below w.heap.size w wr := bthen (HSETW.out w13 HXD.out.1) HI.out
                      clear hjl hj HI
                      go_wp2
                      go_ret
                      exact ⟨rfl, hF⟩
            · have bh : ((eh : Int) != 0) = true := by rw [bne_iff_ne]; omega
              go_wp2_with fail
              refine Calls.mono (num9_any (eh : Int) _) ?_
              rintro e wn ⟨rfl, rfl⟩
              clear bh
              by_cases hzg : eg = 0
              · subst hzg
                go_wp2_with fail
                refine Calls.mono (num9_any 0 _) ?_
                rintro e wn ⟨rfl, rfl⟩
                by_cases hk0 : kn = 0
                · subst hk0
                  go_wp2
                  go_ret
                  exact ⟨rfl, bel11⟩
                · have bk : ((kn : Int) == 0) = false := by rw [beq_eq_false_iff_ne]; omega
                  have QK : Hid _ := HKE.out w11 bel11 HR11.out
                  go_wp2_with fail
                  refine Calls.mono QK.out ?_
                  rintro e w12 ⟨rfl, rfl⟩
                  go_wp2
                  go_ret
                  exact ⟨rfl, bel11⟩
              · have bg : ((eg : Int) != 0) = true := by rw [bne_iff_ne]; omega
                go_wp2_with fail
                refine Calls.mono (num9_any (eg : Int) _) ?_
                rintro e wn ⟨rfl, rfl⟩
                go_wp2
                go_ret
                exact ⟨rfl, bel11⟩
end Go.Proofs.YtmeieggnfmhnmaaDoor
