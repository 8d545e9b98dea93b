/-
  The walk of L4OneForm: whatever is read is written canonically, no longer, and read as the same.
-/
import Derived.Test.YtmeieggnfmhnmaaDoorL9Uni
namespace Go.Proofs.YtmeieggnfmhnmaaDoor
open Go.RowKit
open L4 (U9 T9)

set_option maxHeartbeats 12800000 in
set_option maxRecDepth 100000 in
theorem l4OneForm.walk (w : World) (hT : Tabs w) (V : Int) (x : Nat → Nat) (hx : ∀ i, i < 16 → x i < 256) (U : Int) (y : Nat → Nat) (hy : ∀ i, i < 16 → y i < 256) (bs : List Nat) (ba : Option Addr) (nb cb : Nat) (k : DOk w bs ba nb cb) (_ : cb ≤ 1048576) :
    Calls Tryd.prog 3 #[.agg (ipCells V x), .agg (ipCells U y), .slice ba nb cb] w fun e w' => e = .returned (.bool true) ∧ Below w.heap.size w w' := by
  obtain ⟨A, hA⟩ : ∃ A, A = ipCells V x := ⟨_, rfl⟩
  obtain ⟨C, hC⟩ : ∃ C, C = ipCells U y := ⟨_, rfl⟩
  have hx1 := boxed_new w V x 24
  have hy1 := boxed_new (w.alloc (.cells (ipCells V x) 24)) U y 24
  rw [World.size_alloc] at hy1
  have hx2 := hx1.old ((Below.refl _ _).alloc (Nat.le_refl _) (.cells (ipCells U y) 24))
  clear hx1
  rw [← hA] at hx2 hy1 ⊢
  rw [← hC] at hx2 hy1 ⊢
  have bel : Below w.heap.size w ((w.alloc (.cells A 24)).alloc (.cells C 24)) := ((Below.refl _ _).alloc (Nat.le_refl _) _).alloc (by simp) _
  obtain ⟨W, hW⟩ : ∃ W, W = (w.alloc (.cells A 24)).alloc (.cells C 24) := ⟨_, rfl⟩
  rw [← hW] at hx2 hy1 bel
  obtain ⟨B, hB⟩ : ∃ B, B = w.heap.size := ⟨_, rfl⟩
  have HB : Hid (w.heap.size = B) := hB.symm
  rw [← hB] at hx2 hy1
  have HW : Hid ((w.alloc (.cells A 24)).alloc (.cells C 24) = W) := hW.symm
  have HX : Hid (∀ i, i < 16 → x i < 256) := hx
  have HY : Hid (∀ i, i < 16 → y i < 256) := hy
  have HXB : Hid (Boxed W B V x) := hx2
  have HYB : Hid (Boxed W (B + 1) U y) := hy1
  clear hW hx2 hy1 hx hy hA hC hB
  have HK : Hid (DOk w bs ba nb cb) := k
  have HT : Hid (∀ A, Below w.heap.size w A → Tabs A) := fun A hA => hT.old hA
  have QS : Hid _ := started_any W (HT.out W bel)
  clear k hT
  go_enter Tryd.func3, Tryd.ntmps3
  go_upto_region 1 with fail
  rw [HB.out, HW.out]
  go_wp2_with fail
  refine Calls.mono QS.out ?_
  rintro e w1 ⟨rfl, hb1⟩
  have bel1 := bthen bel hb1
  have HX1 : Hid (Boxed w1 B V x) := HXB.out.old hb1
  have HY1 : Hid (Boxed w1 (B + 1) U y) := HYB.out.old hb1
  have QP : Hid _ := parseU_u V U x y ba nb cb bs w1 (HT.out w1 bel1).u (HK.out.old bel1) HX.out HY.out
  clear QS hb1 HXB HYB HW HB
  go_wp2_with (first | (refine wpList_load_ip (.tmp 3) rfl B V x rfl HX1.out rfl ?_) | (refine wpList_load_ip (.tmp 4) rfl (B + 1) U y rfl HY1.out rfl ?_))
  refine Calls.mono QP.out ?_
  rintro e w2 ⟨er, u, da, m, rfl, hb2, her, hdk2, h1, h2⟩
  have HER : Hid _ := her
  have HU1 : Hid (er = 0 → u = L4.uP bs ∧ m = L4.uN bs - 8 ∧ da = cutA ba 8 m) := h1
  have HU2 : Hid (er ≠ 0 → u = u9z ∧ da = none ∧ m = 0) := h2
  have HDU2 : Hid (DOk w2 u.d da m m) := hdk2
  clear her h1 h2 hdk2 QP
  have bel2 := bthen bel1 hb2
  have HX2 : Hid (Boxed w2 B V x) := HX1.out.old hb2
  have HY2 : Hid (Boxed w2 (B + 1) U y) := HY1.out.old hb2
  clear HX1 HY1
  clear hb2
  have hl3 : Below w2.heap.size w2 (w2.alloc (.cells (uC u da m m) 28)) := (Below.refl _ _).alloc (Nat.le_refl _) _
  have un3 := uAt_new w2 u da m m
  obtain ⟨w3, hw3⟩ : ∃ w3, w3 = w2.alloc (.cells (uC u da m m) 28) := ⟨_, rfl⟩
  rw [← hw3] at hl3 un3
  have HW3 : Hid (w2.alloc (.cells #[.int .i64 u.sp, .int .i64 u.dp, .bool u.ns, .slice da m m] 28) = w3) := hw3.symm
  obtain ⟨OU, hOU⟩ : ∃ OU, OU = w2.heap.size := ⟨_, rfl⟩
  rw [← hOU] at un3
  have HOU3 : Hid (UAt w3 OU u da m m) := un3
  have HVs3 : Hid (w2.heap.size = OU) := hOU.symm
  have bel3 := bthen bel2 hl3
  have HX3 : Hid (Boxed w3 B V x) := HX2.out.old hl3
  have HY3 : Hid (Boxed w3 (B + 1) U y) := HY2.out.old hl3
  have HDU3 : Hid (DOk w3 u.d da m m) := HDU2.out.old hl3
  clear HX2 HY2 HDU2
  clear hl3 un3 hw3 hOU
  rw [show uC u da m m = #[.int .i64 u.sp, .int .i64 u.dp, .bool u.ns, .slice da m m] from rfl]
  go_upto_region 5 with fail
  rw [HVs3.out, HW3.out]
  clear HVs3 HW3
  by_cases hz : er = 0
  · subst hz
    obtain ⟨e1, e2, e3⟩ := HU1.out rfl
    clear e3
    have h0 := L4.uPE_zero HER.out.symm
    have hck := L4.uP_chk (psOk_ver h0.2.1).1 HK.out.d256 HER.out.symm
    rw [← e1] at hck
    have HPU : Hid (psOk V U x y = true) := h0.2.1
    have HCU : Hid (L4.uChk V u = 0) := hck.1
    have hnu : u.d.length = m := HDU3.out.dl
    have hM0 : 8 + m ≤ nb := by have := h0.2.2.2.1; have := HK.out.dl; omega
    clear HU1 HU2 e1 e2 h0 hck HER
    obtain ⟨M, hM⟩ : ∃ M, M = 8 + m := ⟨_, rfl⟩
    rw [← hM] at hM0
    obtain ⟨cu, hcu⟩ : ∃ cu, cu = L4.uSer u (psL V U x y 17 (M : Nat)) := ⟨_, rfl⟩
    have HMU : Hid (M = 8 + m) := hM
    have HCUE : Hid (cu = L4.uSer u (psL V U x y 17 (M : Nat))) := hcu
    have HNU : Hid (u.d.length = m) := hnu
    have HME : Hid (M ≤ nb) := hM0
    clear hM hcu hnu hM0
    have QQ := putU_ok V U x y u da m m w3 (HT.out w3 bel3).u HDU3.out HX.out HY.out HPU.out HCU.out
    rw [← HMU.out, ← HCUE.out] at QQ
    have QP : Hid _ := QQ
    clear QQ
    go_wp2_with fail
    refine Calls.mono (num9_any 0 _) ?_
    rintro e wn ⟨rfl, rfl⟩
    go_wp2_with (first | (refine wpList_load_ip (.tmp 3) rfl B V x rfl HX3.out rfl ?_) | (refine wpList_load_ip (.tmp 4) rfl (B + 1) U y rfl HY3.out rfl ?_) | (refine wpList_load_u9 (.tmp 8) rfl OU u da m m rfl HOU3.out rfl ?_))
    refine Calls.mono QP.out ?_
    rintro e w4 ⟨gu, rfl, hb4, ho4, hdc4⟩
    clear ho4
    have HUC4 : Hid (DOk w4 cu (some ⟨gu, 0, none⟩) M M) := hdc4
    clear QP hdc4
    have bel4 := bthen bel3 hb4
    have HX4 : Hid (Boxed w4 B V x) := HX3.out.old hb4
    have HY4 : Hid (Boxed w4 (B + 1) U y) := HY3.out.old hb4
    have HDU4 : Hid (DOk w4 u.d da m m) := HDU3.out.old hb4
    have HOU4 : Hid (UAt w4 OU u da m m) := UAt.below HOU3.out hb4
    clear HX3 HY3 HDU3 HOU3
    clear hb4
    have d0 := HUC4.out
    rw [HCUE.out, HMU.out] at d0
    have QQ := parseU_ok V U x y u m (some ⟨gu, 0, none⟩) w4 (HT.out w4 bel4).u HX.out HY.out HPU.out HCU.out HNU.out d0
    rw [← HMU.out] at QQ
    have QP : Hid _ := QQ
    clear QQ d0
    go_wp2_with (first | (refine wpList_load_ip (.tmp 3) rfl B V x rfl HX4.out rfl ?_) | (refine wpList_load_ip (.tmp 4) rfl (B + 1) U y rfl HY4.out rfl ?_))
    refine Calls.mono QP.out ?_
    rintro e w5 ⟨dw, rfl, hb5, hk5⟩
    have HUV5 : Hid (DOk w5 u.d dw m m) := hk5
    clear QP hk5
    have bel5 := bthen bel4 hb5
    have HX5 : Hid (Boxed w5 B V x) := HX4.out.old hb5
    have HY5 : Hid (Boxed w5 (B + 1) U y) := HY4.out.old hb5
    have HDU5 : Hid (DOk w5 u.d da m m) := HDU4.out.old hb5
    have HOU5 : Hid (UAt w5 OU u da m m) := UAt.below HOU4.out hb5
    have HUC5 : Hid (DOk w5 cu (some ⟨gu, 0, none⟩) M M) := HUC4.out.old hb5
    clear HX4 HY4 HDU4 HOU4 HUC4
    clear hb5
    have hl6 : Below w5.heap.size w5 (w5.alloc (.cells (uC u dw m m) 28)) := (Below.refl _ _).alloc (Nat.le_refl _) _
    have un6 := uAt_new w5 u dw m m
    obtain ⟨w6, hw6⟩ : ∃ w6, w6 = w5.alloc (.cells (uC u dw m m) 28) := ⟨_, rfl⟩
    rw [← hw6] at hl6 un6
    have HW6 : Hid (w5.alloc (.cells #[.int .i64 u.sp, .int .i64 u.dp, .bool u.ns, .slice dw m m] 28) = w6) := hw6.symm
    obtain ⟨OW, hOW⟩ : ∃ OW, OW = w5.heap.size := ⟨_, rfl⟩
    rw [← hOW] at un6
    have HOW6 : Hid (UAt w6 OW u dw m m) := un6
    have HVs6 : Hid (w5.heap.size = OW) := hOW.symm
    have bel6 := bthen bel5 hl6
    have HX6 : Hid (Boxed w6 B V x) := HX5.out.old hl6
    have HY6 : Hid (Boxed w6 (B + 1) U y) := HY5.out.old hl6
    have HDU6 : Hid (DOk w6 u.d da m m) := HDU5.out.old hl6
    have HOU6 : Hid (UAt w6 OU u da m m) := UAt.below HOU5.out hl6
    have HUC6 : Hid (DOk w6 cu (some ⟨gu, 0, none⟩) M M) := HUC5.out.old hl6
    have HUV6 : Hid (DOk w6 u.d dw m m) := HUV5.out.old hl6
    clear HX5 HY5 HDU5 HOU5 HUC5 HUV5
    clear hl6 un6 hw6 hOW
    rw [show uC u dw m m = #[.int .i64 u.sp, .int .i64 u.dp, .bool u.ns, .slice dw m m] from rfl]
    go_upto_region 8 with fail
    rw [HVs6.out, HW6.out]
    clear HVs6 HW6
    have QQ := putU_ok V U x y u dw m m w6 (HT.out w6 bel6).u HUV6.out HX.out HY.out HPU.out HCU.out
    rw [← HMU.out, ← HCUE.out] at QQ
    have QP : Hid _ := QQ
    clear QQ
    go_wp2_with (first | (refine wpList_load_ip (.tmp 3) rfl B V x rfl HX6.out rfl ?_) | (refine wpList_load_ip (.tmp 4) rfl (B + 1) U y rfl HY6.out rfl ?_) | (refine wpList_load_u9 (.tmp 12) rfl OW u dw m m rfl HOW6.out rfl ?_))
    refine Calls.mono QP.out ?_
    rintro e w7 ⟨gv, rfl, hb7, ho7, hdc7⟩
    clear ho7
    have HUE7 : Hid (DOk w7 cu (some ⟨gv, 0, none⟩) M M) := hdc7
    clear QP hdc7
    have bel7 := bthen bel6 hb7
    have HX7 : Hid (Boxed w7 B V x) := HX6.out.old hb7
    have HY7 : Hid (Boxed w7 (B + 1) U y) := HY6.out.old hb7
    have HDU7 : Hid (DOk w7 u.d da m m) := HDU6.out.old hb7
    have HOU7 : Hid (UAt w7 OU u da m m) := UAt.below HOU6.out hb7
    have HUC7 : Hid (DOk w7 cu (some ⟨gu, 0, none⟩) M M) := HUC6.out.old hb7
    have HUV7 : Hid (DOk w7 u.d dw m m) := HUV6.out.old hb7
    have HOW7 : Hid (UAt w7 OW u dw m m) := UAt.below HOW6.out hb7
    clear HX6 HY6 HDU6 HOU6 HUC6 HUV6 HOW6
    clear hb7
    go_wp2_with fail
    refine Calls.mono (num9_any 0 _) ?_
    rintro e wn ⟨rfl, rfl⟩
    go_wp2_with fail
    refine Calls.mono (num9_any 0 _) ?_
    rintro e wn ⟨rfl, rfl⟩
    go_wp2_with fail
    refine Calls.mono (num9_any 0 _) ?_
    rintro e wn ⟨rfl, rfl⟩
    have QS : Hid _ := sameU_true u da dw m m m w7 HDU7.out HUV7.out
    go_wp2_with (first | (refine wpList_load_u9 (.tmp 8) rfl OU u da m m rfl HOU7.out rfl ?_) | (refine wpList_load_u9 (.tmp 12) rfl OW u dw m m rfl HOW7.out rfl ?_))
    refine Calls.mono QS.out ?_
    rintro e w8 ⟨rfl, hb8⟩
    clear QS
    have bel8 := bthen bel7 hb8
    have HX8 : Hid (Boxed w8 B V x) := HX7.out.old hb8
    have HY8 : Hid (Boxed w8 (B + 1) U y) := HY7.out.old hb8
    have HDU8 : Hid (DOk w8 u.d da m m) := HDU7.out.old hb8
    have HOU8 : Hid (UAt w8 OU u da m m) := UAt.below HOU7.out hb8
    have HUC8 : Hid (DOk w8 cu (some ⟨gu, 0, none⟩) M M) := HUC7.out.old hb8
    have HUV8 : Hid (DOk w8 u.d dw m m) := HUV7.out.old hb8
    have HOW8 : Hid (UAt w8 OW u dw m m) := UAt.below HOW7.out hb8
    have HUE8 : Hid (DOk w8 cu (some ⟨gv, 0, none⟩) M M) := HUE7.out.old hb8
    clear HX7 HY7 HDU7 HOU7 HUC7 HUV7 HOW7 HUE7
    clear hb8
    have QA := alike_any (some ⟨gu, 0, none⟩) (some ⟨gv, 0, none⟩) M M M M cu cu w8 HUC8.out.dl HUE8.out.dl HUC8.out.seg HUE8.out.seg HUC8.out.d256 HUE8.out.d256
    rw [decide_eq_true (rfl : cu = cu)] at QA
    have HQA : Hid _ := QA
    clear QA
    go_wp2_with fail
    refine Calls.mono HQA.out ?_
    rintro e w9 ⟨rfl, rfl⟩
    clear HQA
    have hle : (M : Int) ≤ (nb : Int) := by have := HME.out; omega
    go_upto_region 11 with fail
    clear hle
    clear HUC8
    clear HUE8
    clear HUV8
    clear HOW8
    clear HDU8
    have QT : Hid _ := parseT_u V U x y ba nb cb bs w8 (HT.out w8 bel8).t (HT.out w8 bel8).l (HK.out.old bel8) HX.out HY.out
    go_wp2_with (first | (refine wpList_load_ip (.tmp 3) rfl B V x rfl HX8.out rfl ?_) | (refine wpList_load_ip (.tmp 4) rfl (B + 1) U y rfl HY8.out rfl ?_))
    refine Calls.mono QT.out ?_
    rintro e w20 ⟨eh, t, la, ln, lc, os, dt, mt, rfl, hb20, heh, hdk, h1, h2, h3⟩
    clear h3
    have HEH : Hid _ := heh
    have HT1 : Hid (eh = 0 → t = L4.tP bs ∧ mt = bs.length - L4.tH bs ∧ dt = cutA ba (L4.tH bs) mt) := h1
    have HT2 : Hid (eh ≠ 0 → t = t9z ∧ la = none ∧ ln = 0 ∧ lc = 0 ∧ os = [] ∧ dt = none ∧ mt = 0) := h2
    have HDT20 : Hid (TOk w20 t la ln os dt mt mt) := hdk
    clear heh h1 h2 hdk QT
    have bel20 := bthen bel8 hb20
    have HX20 : Hid (Boxed w20 B V x) := HX8.out.old hb20
    have HY20 : Hid (Boxed w20 (B + 1) U y) := HY8.out.old hb20
    have HOU20 : Hid (UAt w20 OU u da m m) := UAt.below HOU8.out hb20
    clear HX8 HY8 HOU8
    clear hb20
    have hl21 : Below w20.heap.size w20 (w20.alloc (.cells (tC t la ln lc dt mt mt) 39)) := (Below.refl _ _).alloc (Nat.le_refl _) _
    have un21 := tAt_new w20 t la ln lc dt mt mt
    obtain ⟨w21, hw21⟩ : ∃ w21, w21 = w20.alloc (.cells (tC t la ln lc dt mt mt) 39) := ⟨_, rfl⟩
    rw [← hw21] at hl21 un21
    have HW21 : Hid (w20.alloc (.cells #[.int .i64 t.sp, .int .i64 t.dp, .int .i64 t.sq, .int .i64 t.ak, .int .i64 t.fl, .int .i64 t.wi, .int .i64 t.ur, .slice la ln lc, .slice dt mt mt] 39) = w21) := hw21.symm
    obtain ⟨OT, hOT⟩ : ∃ OT, OT = w20.heap.size := ⟨_, rfl⟩
    rw [← hOT] at un21
    have HOT21 : Hid (TAt w21 OT t la ln lc dt mt mt) := un21
    have HVs21 : Hid (w20.heap.size = OT) := hOT.symm
    have bel21 := bthen bel20 hl21
    have HX21 : Hid (Boxed w21 B V x) := HX20.out.old hl21
    have HY21 : Hid (Boxed w21 (B + 1) U y) := HY20.out.old hl21
    have HOU21 : Hid (UAt w21 OU u da m m) := UAt.below HOU20.out hl21
    have HDT21 : Hid (TOk w21 t la ln os dt mt mt) := HDT20.out.old hl21
    clear HX20 HY20 HOU20 HDT20
    clear hl21 un21 hw21 hOT
    rw [show tC t la ln lc dt mt mt = #[.int .i64 t.sp, .int .i64 t.dp, .int .i64 t.sq, .int .i64 t.ak, .int .i64 t.fl, .int .i64 t.wi, .int .i64 t.ur, .slice la ln lc, .slice dt mt mt] from rfl]
    go_upto_region 12 with fail
    rw [HVs21.out, HW21.out]
    clear HVs21 HW21
    by_cases hzt : eh = 0
    · subst hzt
      obtain ⟨e1, e2, e3⟩ := HT1.out rfl
      clear e3
      have h0 := L4.tPE_zero HEH.out.symm
      have hck := L4.tP_chk HK.out.d256 HEH.out.symm
      rw [← e1] at hck
      have HPT : Hid (psOk V U x y = true) := h0.2.1
      have HCT : Hid (L4.tChk t = 0) := hck.1
      have hnt : t.d.length = mt := HDT21.out.d.dl
      have hlt : t.os.length = ln := by rw [← HDT21.out.ov, ← HDT21.out.ol]; simp [vals]
      have hL0 := hck.2
      rw [hnt, HK.out.dl] at hL0
      clear HT1 HT2 e1 e2 h0 hck HEH
      obtain ⟨L, hL⟩ : ∃ L, L = 20 + (I4.putO t.os).length + mt := ⟨_, rfl⟩
      rw [← hL] at hL0
      obtain ⟨ct, hct⟩ : ∃ ct, ct = L4.tSer t (psL V U x y 6 (L : Nat)) := ⟨_, rfl⟩
      have HLT : Hid (L = 20 + (I4.putO t.os).length + mt) := hL
      have HCTE : Hid (ct = L4.tSer t (psL V U x y 6 (L : Nat))) := hct
      have HNT : Hid (t.d.length = mt) := hnt
      have HLN : Hid (t.os.length = ln) := hlt
      have HLE : Hid (L ≤ nb) := hL0
      clear hL hct hnt hlt hL0
      have QQ := putT_ok V U x y t la ln lc os dt mt mt w21 (HT.out w21 bel21).t (HT.out w21 bel21).l HDT21.out HX.out HY.out HPT.out HCT.out
      rw [← HLT.out, ← HCTE.out] at QQ
      have QP : Hid _ := QQ
      clear QQ
      go_wp2_with fail
      refine Calls.mono (num9_any 0 _) ?_
      rintro e wn ⟨rfl, rfl⟩
      go_wp2_with (first | (refine wpList_load_ip (.tmp 3) rfl B V x rfl HX21.out rfl ?_) | (refine wpList_load_ip (.tmp 4) rfl (B + 1) U y rfl HY21.out rfl ?_) | (refine wpList_load_t9 (.tmp 16) rfl OT t la ln lc dt mt mt rfl HOT21.out rfl ?_))
      refine Calls.mono QP.out ?_
      rintro e w24 ⟨g, rfl, hb24, ho24, hdc24⟩
      clear ho24
      have HDC24 : Hid (DOk w24 ct (some ⟨g, 0, none⟩) L L) := hdc24
      clear QP hdc24
      have bel24 := bthen bel21 hb24
      have HX24 : Hid (Boxed w24 B V x) := HX21.out.old hb24
      have HY24 : Hid (Boxed w24 (B + 1) U y) := HY21.out.old hb24
      have HOU24 : Hid (UAt w24 OU u da m m) := UAt.below HOU21.out hb24
      have HDT24 : Hid (TOk w24 t la ln os dt mt mt) := HDT21.out.old hb24
      have HOT24 : Hid (TAt w24 OT t la ln lc dt mt mt) := TAt.below HOT21.out hb24
      clear HX21 HY21 HOU21 HDT21 HOT21
      clear hb24
      have d0 := HDC24.out
      rw [HCTE.out, HLT.out] at d0
      have QQ := parseT_ok V U x y t mt ln (some ⟨g, 0, none⟩) w24 (HT.out w24 bel24).t (HT.out w24 bel24).l HX.out HY.out HPT.out HCT.out HNT.out HLN.out d0
      rw [← HLT.out] at QQ
      have QP : Hid _ := QQ
      clear QQ d0
      go_wp2_with (first | (refine wpList_load_ip (.tmp 3) rfl B V x rfl HX24.out rfl ?_) | (refine wpList_load_ip (.tmp 4) rfl (B + 1) U y rfl HY24.out rfl ?_))
      refine Calls.mono QP.out ?_
      rintro e w25 ⟨ra, rc, ps, dv, rfl, hb25, hk25⟩
      have HDV25 : Hid (TOk w25 t ra ln ps dv mt mt) := hk25
      clear QP hk25
      have bel25 := bthen bel24 hb25
      have HX25 : Hid (Boxed w25 B V x) := HX24.out.old hb25
      have HY25 : Hid (Boxed w25 (B + 1) U y) := HY24.out.old hb25
      have HOU25 : Hid (UAt w25 OU u da m m) := UAt.below HOU24.out hb25
      have HDT25 : Hid (TOk w25 t la ln os dt mt mt) := HDT24.out.old hb25
      have HOT25 : Hid (TAt w25 OT t la ln lc dt mt mt) := TAt.below HOT24.out hb25
      have HDC25 : Hid (DOk w25 ct (some ⟨g, 0, none⟩) L L) := HDC24.out.old hb25
      clear HX24 HY24 HOU24 HDT24 HOT24 HDC24
      clear hb25
      have hl26 : Below w25.heap.size w25 (w25.alloc (.cells (tC t ra ln rc dv mt mt) 39)) := (Below.refl _ _).alloc (Nat.le_refl _) _
      have un26 := tAt_new w25 t ra ln rc dv mt mt
      obtain ⟨w26, hw26⟩ : ∃ w26, w26 = w25.alloc (.cells (tC t ra ln rc dv mt mt) 39) := ⟨_, rfl⟩
      rw [← hw26] at hl26 un26
      have HW26 : Hid (w25.alloc (.cells #[.int .i64 t.sp, .int .i64 t.dp, .int .i64 t.sq, .int .i64 t.ak, .int .i64 t.fl, .int .i64 t.wi, .int .i64 t.ur, .slice ra ln rc, .slice dv mt mt] 39) = w26) := hw26.symm
      obtain ⟨OV, hOV⟩ : ∃ OV, OV = w25.heap.size := ⟨_, rfl⟩
      rw [← hOV] at un26
      have HOV26 : Hid (TAt w26 OV t ra ln rc dv mt mt) := un26
      have HVs26 : Hid (w25.heap.size = OV) := hOV.symm
      have bel26 := bthen bel25 hl26
      have HX26 : Hid (Boxed w26 B V x) := HX25.out.old hl26
      have HY26 : Hid (Boxed w26 (B + 1) U y) := HY25.out.old hl26
      have HOU26 : Hid (UAt w26 OU u da m m) := UAt.below HOU25.out hl26
      have HDT26 : Hid (TOk w26 t la ln os dt mt mt) := HDT25.out.old hl26
      have HOT26 : Hid (TAt w26 OT t la ln lc dt mt mt) := TAt.below HOT25.out hl26
      have HDC26 : Hid (DOk w26 ct (some ⟨g, 0, none⟩) L L) := HDC25.out.old hl26
      have HDV26 : Hid (TOk w26 t ra ln ps dv mt mt) := HDV25.out.old hl26
      clear HX25 HY25 HOU25 HDT25 HOT25 HDC25 HDV25
      clear hl26 un26 hw26 hOV
      rw [show tC t ra ln rc dv mt mt = #[.int .i64 t.sp, .int .i64 t.dp, .int .i64 t.sq, .int .i64 t.ak, .int .i64 t.fl, .int .i64 t.wi, .int .i64 t.ur, .slice ra ln rc, .slice dv mt mt] from rfl]
      go_upto_region 16 with fail
      rw [HVs26.out, HW26.out]
      clear HVs26 HW26
      have QQ := putT_ok V U x y t ra ln rc ps dv mt mt w26 (HT.out w26 bel26).t (HT.out w26 bel26).l HDV26.out HX.out HY.out HPT.out HCT.out
      rw [← HLT.out, ← HCTE.out] at QQ
      have QP : Hid _ := QQ
      clear QQ
      go_wp2_with (first | (refine wpList_load_ip (.tmp 3) rfl B V x rfl HX26.out rfl ?_) | (refine wpList_load_ip (.tmp 4) rfl (B + 1) U y rfl HY26.out rfl ?_) | (refine wpList_load_t9 (.tmp 20) rfl OV t ra ln rc dv mt mt rfl HOV26.out rfl ?_))
      refine Calls.mono QP.out ?_
      rintro e w27 ⟨g2, rfl, hb27, ho27, hdc27⟩
      clear ho27
      have HDE27 : Hid (DOk w27 ct (some ⟨g2, 0, none⟩) L L) := hdc27
      clear QP hdc27
      have bel27 := bthen bel26 hb27
      have HX27 : Hid (Boxed w27 B V x) := HX26.out.old hb27
      have HY27 : Hid (Boxed w27 (B + 1) U y) := HY26.out.old hb27
      have HOU27 : Hid (UAt w27 OU u da m m) := UAt.below HOU26.out hb27
      have HDT27 : Hid (TOk w27 t la ln os dt mt mt) := HDT26.out.old hb27
      have HOT27 : Hid (TAt w27 OT t la ln lc dt mt mt) := TAt.below HOT26.out hb27
      have HDC27 : Hid (DOk w27 ct (some ⟨g, 0, none⟩) L L) := HDC26.out.old hb27
      have HDV27 : Hid (TOk w27 t ra ln ps dv mt mt) := HDV26.out.old hb27
      have HOV27 : Hid (TAt w27 OV t ra ln rc dv mt mt) := TAt.below HOV26.out hb27
      clear HX26 HY26 HOU26 HDT26 HOT26 HDC26 HDV26 HOV26
      clear hb27
      go_wp2_with fail
      refine Calls.mono (num9_any 0 _) ?_
      rintro e wn ⟨rfl, rfl⟩
      go_wp2_with fail
      refine Calls.mono (num9_any 0 _) ?_
      rintro e wn ⟨rfl, rfl⟩
      go_wp2_with fail
      refine Calls.mono (num9_any 0 _) ?_
      rintro e wn ⟨rfl, rfl⟩
      have QS : Hid _ := sameT_true t la ra ln lc rc os ps dt dv mt mt mt w27 HDT27.out.oat HDV27.out.oat HDT27.out.ol (HDT27.out.ov.trans HDV27.out.ov.symm) HDT27.out.on HDT27.out.d HDV27.out.d
      go_wp2_with (first | (refine wpList_load_t9 (.tmp 16) rfl OT t la ln lc dt mt mt rfl HOT27.out rfl ?_) | (refine wpList_load_t9 (.tmp 20) rfl OV t ra ln rc dv mt mt rfl HOV27.out rfl ?_))
      refine Calls.mono QS.out ?_
      rintro e w28 ⟨rfl, hb28⟩
      clear QS
      have bel28 := bthen bel27 hb28
      have HX28 : Hid (Boxed w28 B V x) := HX27.out.old hb28
      have HY28 : Hid (Boxed w28 (B + 1) U y) := HY27.out.old hb28
      have HOU28 : Hid (UAt w28 OU u da m m) := UAt.below HOU27.out hb28
      have HDT28 : Hid (TOk w28 t la ln os dt mt mt) := HDT27.out.old hb28
      have HOT28 : Hid (TAt w28 OT t la ln lc dt mt mt) := TAt.below HOT27.out hb28
      have HDC28 : Hid (DOk w28 ct (some ⟨g, 0, none⟩) L L) := HDC27.out.old hb28
      have HDV28 : Hid (TOk w28 t ra ln ps dv mt mt) := HDV27.out.old hb28
      have HOV28 : Hid (TAt w28 OV t ra ln rc dv mt mt) := TAt.below HOV27.out hb28
      have HDE28 : Hid (DOk w28 ct (some ⟨g2, 0, none⟩) L L) := HDE27.out.old hb28
      clear HX27 HY27 HOU27 HDT27 HOT27 HDC27 HDV27 HOV27 HDE27
      clear hb28
      have QA := alike_any (some ⟨g, 0, none⟩) (some ⟨g2, 0, none⟩) L L L L ct ct w28 HDC28.out.dl HDE28.out.dl HDC28.out.seg HDE28.out.seg HDC28.out.d256 HDE28.out.d256
      rw [decide_eq_true (rfl : ct = ct)] at QA
      have HQA : Hid _ := QA
      clear QA
      go_wp2_with fail
      refine Calls.mono HQA.out ?_
      rintro e w29 ⟨rfl, rfl⟩
      clear HQA
      have hle : (L : Int) ≤ (nb : Int) := by have := HLE.out; omega
      go_wp2
      go_ret
      exact ⟨rfl, bel28⟩
    · obtain ⟨rfl, rfl, rfl, rfl, rfl, rfl, rfl⟩ := HT2.out hzt
      clear HT1 HT2
      have bq : ((eh : Int) != 0) = true := by rw [bne_iff_ne]; omega
      have QA : Hid _ := sameT_true t9z none none 0 0 0 [] [] none none 0 0 0 w21 (.inl rfl) (.inl rfl) rfl rfl (by omega) HDT21.out.d HDT21.out.d
      go_wp2_with fail
      refine Calls.mono (num9_any (eh : Int) _) ?_
      rintro e wn ⟨rfl, rfl⟩
      go_wp2_with (first | (refine wpList_load_t9 (.tmp 16) rfl OT t9z none 0 0 none 0 0 rfl HOT21.out rfl ?_) | (refine wpList_build0t rfl rfl ?_))
      refine Calls.mono QA.out ?_
      rintro e w22 ⟨rfl, hb22⟩
      clear QA
      have bel22 := bthen bel21 hb22
      have HX22 : Hid (Boxed w22 B V x) := HX21.out.old hb22
      have HY22 : Hid (Boxed w22 (B + 1) U y) := HY21.out.old hb22
      have HOU22 : Hid (UAt w22 OU u da m m) := UAt.below HOU21.out hb22
      have HDT22 : Hid (TOk w22 t9z none 0 [] none 0 0) := HDT21.out.old hb22
      have HOT22 : Hid (TAt w22 OT t9z none 0 0 none 0 0) := TAt.below HOT21.out hb22
      clear HX21 HY21 HOU21 HDT21 HOT21
      clear hb22
      go_wp2_with fail
      refine Calls.mono (num9_any 0 _) ?_
      rintro e wn ⟨rfl, rfl⟩
      go_wp2
      go_ret
      exact ⟨rfl, bel22⟩
  · obtain ⟨rfl, rfl, rfl⟩ := HU2.out hz
    clear HU1 HU2
    have bz : ((er : Int) == 0) = false := by rw [beq_eq_false_iff_ne]; omega
    go_wp2_with fail
    refine Calls.mono (num9_any (er : Int) _) ?_
    rintro e wn ⟨rfl, rfl⟩
    clear bz
    have QT : Hid _ := parseT_u V U x y ba nb cb bs w3 (HT.out w3 bel3).t (HT.out w3 bel3).l (HK.out.old bel3) HX.out HY.out
    go_wp2_with (first | (refine wpList_load_ip (.tmp 3) rfl B V x rfl HX3.out rfl ?_) | (refine wpList_load_ip (.tmp 4) rfl (B + 1) U y rfl HY3.out rfl ?_))
    refine Calls.mono QT.out ?_
    rintro e w20 ⟨eh, t, la, ln, lc, os, dt, mt, rfl, hb20, heh, hdk, h1, h2, h3⟩
    clear h3
    have HEH : Hid _ := heh
    have HT1 : Hid (eh = 0 → t = L4.tP bs ∧ mt = bs.length - L4.tH bs ∧ dt = cutA ba (L4.tH bs) mt) := h1
    have HT2 : Hid (eh ≠ 0 → t = t9z ∧ la = none ∧ ln = 0 ∧ lc = 0 ∧ os = [] ∧ dt = none ∧ mt = 0) := h2
    have HDT20 : Hid (TOk w20 t la ln os dt mt mt) := hdk
    clear heh h1 h2 hdk QT
    have bel20 := bthen bel3 hb20
    have HX20 : Hid (Boxed w20 B V x) := HX3.out.old hb20
    have HY20 : Hid (Boxed w20 (B + 1) U y) := HY3.out.old hb20
    have HDU20 : Hid (DOk w20 u9z.d none 0 0) := HDU3.out.old hb20
    have HOU20 : Hid (UAt w20 OU u9z none 0 0) := UAt.below HOU3.out hb20
    clear HX3 HY3 HDU3 HOU3
    clear hb20
    have hl21 : Below w20.heap.size w20 (w20.alloc (.cells (tC t la ln lc dt mt mt) 39)) := (Below.refl _ _).alloc (Nat.le_refl _) _
    have un21 := tAt_new w20 t la ln lc dt mt mt
    obtain ⟨w21, hw21⟩ : ∃ w21, w21 = w20.alloc (.cells (tC t la ln lc dt mt mt) 39) := ⟨_, rfl⟩
    rw [← hw21] at hl21 un21
    have HW21 : Hid (w20.alloc (.cells #[.int .i64 t.sp, .int .i64 t.dp, .int .i64 t.sq, .int .i64 t.ak, .int .i64 t.fl, .int .i64 t.wi, .int .i64 t.ur, .slice la ln lc, .slice dt mt mt] 39) = w21) := hw21.symm
    obtain ⟨OT, hOT⟩ : ∃ OT, OT = w20.heap.size := ⟨_, rfl⟩
    rw [← hOT] at un21
    have HOT21 : Hid (TAt w21 OT t la ln lc dt mt mt) := un21
    have HVs21 : Hid (w20.heap.size = OT) := hOT.symm
    have bel21 := bthen bel20 hl21
    have HX21 : Hid (Boxed w21 B V x) := HX20.out.old hl21
    have HY21 : Hid (Boxed w21 (B + 1) U y) := HY20.out.old hl21
    have HDU21 : Hid (DOk w21 u9z.d none 0 0) := HDU20.out.old hl21
    have HOU21 : Hid (UAt w21 OU u9z none 0 0) := UAt.below HOU20.out hl21
    have HDT21 : Hid (TOk w21 t la ln os dt mt mt) := HDT20.out.old hl21
    clear HX20 HY20 HDU20 HOU20 HDT20
    clear hl21 un21 hw21 hOT
    rw [show tC t la ln lc dt mt mt = #[.int .i64 t.sp, .int .i64 t.dp, .int .i64 t.sq, .int .i64 t.ak, .int .i64 t.fl, .int .i64 t.wi, .int .i64 t.ur, .slice la ln lc, .slice dt mt mt] from rfl]
    go_upto_region 12 with fail
    rw [HVs21.out, HW21.out]
    clear HVs21 HW21
    by_cases hzt : eh = 0
    · subst hzt
      obtain ⟨e1, e2, e3⟩ := HT1.out rfl
      clear e3
      have h0 := L4.tPE_zero HEH.out.symm
      have hck := L4.tP_chk HK.out.d256 HEH.out.symm
      rw [← e1] at hck
      have HPT : Hid (psOk V U x y = true) := h0.2.1
      have HCT : Hid (L4.tChk t = 0) := hck.1
      have hnt : t.d.length = mt := HDT21.out.d.dl
      have hlt : t.os.length = ln := by rw [← HDT21.out.ov, ← HDT21.out.ol]; simp [vals]
      have hL0 := hck.2
      rw [hnt, HK.out.dl] at hL0
      clear HT1 HT2 e1 e2 h0 hck HEH
      obtain ⟨L, hL⟩ : ∃ L, L = 20 + (I4.putO t.os).length + mt := ⟨_, rfl⟩
      rw [← hL] at hL0
      obtain ⟨ct, hct⟩ : ∃ ct, ct = L4.tSer t (psL V U x y 6 (L : Nat)) := ⟨_, rfl⟩
      have HLT : Hid (L = 20 + (I4.putO t.os).length + mt) := hL
      have HCTE : Hid (ct = L4.tSer t (psL V U x y 6 (L : Nat))) := hct
      have HNT : Hid (t.d.length = mt) := hnt
      have HLN : Hid (t.os.length = ln) := hlt
      have HLE : Hid (L ≤ nb) := hL0
      clear hL hct hnt hlt hL0
      have QQ := putT_ok V U x y t la ln lc os dt mt mt w21 (HT.out w21 bel21).t (HT.out w21 bel21).l HDT21.out HX.out HY.out HPT.out HCT.out
      rw [← HLT.out, ← HCTE.out] at QQ
      have QP : Hid _ := QQ
      clear QQ
      go_wp2_with fail
      refine Calls.mono (num9_any 0 _) ?_
      rintro e wn ⟨rfl, rfl⟩
      go_wp2_with (first | (refine wpList_load_ip (.tmp 3) rfl B V x rfl HX21.out rfl ?_) | (refine wpList_load_ip (.tmp 4) rfl (B + 1) U y rfl HY21.out rfl ?_) | (refine wpList_load_t9 (.tmp 16) rfl OT t la ln lc dt mt mt rfl HOT21.out rfl ?_))
      refine Calls.mono QP.out ?_
      rintro e w24 ⟨g, rfl, hb24, ho24, hdc24⟩
      clear ho24
      have HDC24 : Hid (DOk w24 ct (some ⟨g, 0, none⟩) L L) := hdc24
      clear QP hdc24
      have bel24 := bthen bel21 hb24
      have HX24 : Hid (Boxed w24 B V x) := HX21.out.old hb24
      have HY24 : Hid (Boxed w24 (B + 1) U y) := HY21.out.old hb24
      have HDU24 : Hid (DOk w24 u9z.d none 0 0) := HDU21.out.old hb24
      have HOU24 : Hid (UAt w24 OU u9z none 0 0) := UAt.below HOU21.out hb24
      have HDT24 : Hid (TOk w24 t la ln os dt mt mt) := HDT21.out.old hb24
      have HOT24 : Hid (TAt w24 OT t la ln lc dt mt mt) := TAt.below HOT21.out hb24
      clear HX21 HY21 HDU21 HOU21 HDT21 HOT21
      clear hb24
      have d0 := HDC24.out
      rw [HCTE.out, HLT.out] at d0
      have QQ := parseT_ok V U x y t mt ln (some ⟨g, 0, none⟩) w24 (HT.out w24 bel24).t (HT.out w24 bel24).l HX.out HY.out HPT.out HCT.out HNT.out HLN.out d0
      rw [← HLT.out] at QQ
      have QP : Hid _ := QQ
      clear QQ d0
      go_wp2_with (first | (refine wpList_load_ip (.tmp 3) rfl B V x rfl HX24.out rfl ?_) | (refine wpList_load_ip (.tmp 4) rfl (B + 1) U y rfl HY24.out rfl ?_))
      refine Calls.mono QP.out ?_
      rintro e w25 ⟨ra, rc, ps, dv, rfl, hb25, hk25⟩
      have HDV25 : Hid (TOk w25 t ra ln ps dv mt mt) := hk25
      clear QP hk25
      have bel25 := bthen bel24 hb25
      have HX25 : Hid (Boxed w25 B V x) := HX24.out.old hb25
      have HY25 : Hid (Boxed w25 (B + 1) U y) := HY24.out.old hb25
      have HDU25 : Hid (DOk w25 u9z.d none 0 0) := HDU24.out.old hb25
      have HOU25 : Hid (UAt w25 OU u9z none 0 0) := UAt.below HOU24.out hb25
      have HDT25 : Hid (TOk w25 t la ln os dt mt mt) := HDT24.out.old hb25
      have HOT25 : Hid (TAt w25 OT t la ln lc dt mt mt) := TAt.below HOT24.out hb25
      have HDC25 : Hid (DOk w25 ct (some ⟨g, 0, none⟩) L L) := HDC24.out.old hb25
      clear HX24 HY24 HDU24 HOU24 HDT24 HOT24 HDC24
      clear hb25
      have hl26 : Below w25.heap.size w25 (w25.alloc (.cells (tC t ra ln rc dv mt mt) 39)) := (Below.refl _ _).alloc (Nat.le_refl _) _
      have un26 := tAt_new w25 t ra ln rc dv mt mt
      obtain ⟨w26, hw26⟩ : ∃ w26, w26 = w25.alloc (.cells (tC t ra ln rc dv mt mt) 39) := ⟨_, rfl⟩
      rw [← hw26] at hl26 un26
      have HW26 : Hid (w25.alloc (.cells #[.int .i64 t.sp, .int .i64 t.dp, .int .i64 t.sq, .int .i64 t.ak, .int .i64 t.fl, .int .i64 t.wi, .int .i64 t.ur, .slice ra ln rc, .slice dv mt mt] 39) = w26) := hw26.symm
      obtain ⟨OV, hOV⟩ : ∃ OV, OV = w25.heap.size := ⟨_, rfl⟩
      rw [← hOV] at un26
      have HOV26 : Hid (TAt w26 OV t ra ln rc dv mt mt) := un26
      have HVs26 : Hid (w25.heap.size = OV) := hOV.symm
      have bel26 := bthen bel25 hl26
      have HX26 : Hid (Boxed w26 B V x) := HX25.out.old hl26
      have HY26 : Hid (Boxed w26 (B + 1) U y) := HY25.out.old hl26
      have HDU26 : Hid (DOk w26 u9z.d none 0 0) := HDU25.out.old hl26
      have HOU26 : Hid (UAt w26 OU u9z none 0 0) := UAt.below HOU25.out hl26
      have HDT26 : Hid (TOk w26 t la ln os dt mt mt) := HDT25.out.old hl26
      have HOT26 : Hid (TAt w26 OT t la ln lc dt mt mt) := TAt.below HOT25.out hl26
      have HDC26 : Hid (DOk w26 ct (some ⟨g, 0, none⟩) L L) := HDC25.out.old hl26
      have HDV26 : Hid (TOk w26 t ra ln ps dv mt mt) := HDV25.out.old hl26
      clear HX25 HY25 HDU25 HOU25 HDT25 HOT25 HDC25 HDV25
      clear hl26 un26 hw26 hOV
      rw [show tC t ra ln rc dv mt mt = #[.int .i64 t.sp, .int .i64 t.dp, .int .i64 t.sq, .int .i64 t.ak, .int .i64 t.fl, .int .i64 t.wi, .int .i64 t.ur, .slice ra ln rc, .slice dv mt mt] from rfl]
      go_upto_region 16 with fail
      rw [HVs26.out, HW26.out]
      clear HVs26 HW26
      have QQ := putT_ok V U x y t ra ln rc ps dv mt mt w26 (HT.out w26 bel26).t (HT.out w26 bel26).l HDV26.out HX.out HY.out HPT.out HCT.out
      rw [← HLT.out, ← HCTE.out] at QQ
      have QP : Hid _ := QQ
      clear QQ
      go_wp2_with (first | (refine wpList_load_ip (.tmp 3) rfl B V x rfl HX26.out rfl ?_) | (refine wpList_load_ip (.tmp 4) rfl (B + 1) U y rfl HY26.out rfl ?_) | (refine wpList_load_t9 (.tmp 20) rfl OV t ra ln rc dv mt mt rfl HOV26.out rfl ?_))
      refine Calls.mono QP.out ?_
      rintro e w27 ⟨g2, rfl, hb27, ho27, hdc27⟩
      clear ho27
      have HDE27 : Hid (DOk w27 ct (some ⟨g2, 0, none⟩) L L) := hdc27
      clear QP hdc27
      have bel27 := bthen bel26 hb27
      have HX27 : Hid (Boxed w27 B V x) := HX26.out.old hb27
      have HY27 : Hid (Boxed w27 (B + 1) U y) := HY26.out.old hb27
      have HDU27 : Hid (DOk w27 u9z.d none 0 0) := HDU26.out.old hb27
      have HOU27 : Hid (UAt w27 OU u9z none 0 0) := UAt.below HOU26.out hb27
      have HDT27 : Hid (TOk w27 t la ln os dt mt mt) := HDT26.out.old hb27
      have HOT27 : Hid (TAt w27 OT t la ln lc dt mt mt) := TAt.below HOT26.out hb27
      have HDC27 : Hid (DOk w27 ct (some ⟨g, 0, none⟩) L L) := HDC26.out.old hb27
      have HDV27 : Hid (TOk w27 t ra ln ps dv mt mt) := HDV26.out.old hb27
      have HOV27 : Hid (TAt w27 OV t ra ln rc dv mt mt) := TAt.below HOV26.out hb27
      clear HX26 HY26 HDU26 HOU26 HDT26 HOT26 HDC26 HDV26 HOV26
      clear hb27
      go_wp2_with fail
      refine Calls.mono (num9_any 0 _) ?_
      rintro e wn ⟨rfl, rfl⟩
      go_wp2_with fail
      refine Calls.mono (num9_any 0 _) ?_
      rintro e wn ⟨rfl, rfl⟩
      go_wp2_with fail
      refine Calls.mono (num9_any 0 _) ?_
      rintro e wn ⟨rfl, rfl⟩
      have QS : Hid _ := sameT_true t la ra ln lc rc os ps dt dv mt mt mt w27 HDT27.out.oat HDV27.out.oat HDT27.out.ol (HDT27.out.ov.trans HDV27.out.ov.symm) HDT27.out.on HDT27.out.d HDV27.out.d
      go_wp2_with (first | (refine wpList_load_t9 (.tmp 16) rfl OT t la ln lc dt mt mt rfl HOT27.out rfl ?_) | (refine wpList_load_t9 (.tmp 20) rfl OV t ra ln rc dv mt mt rfl HOV27.out rfl ?_))
      refine Calls.mono QS.out ?_
      rintro e w28 ⟨rfl, hb28⟩
      clear QS
      have bel28 := bthen bel27 hb28
      have HX28 : Hid (Boxed w28 B V x) := HX27.out.old hb28
      have HY28 : Hid (Boxed w28 (B + 1) U y) := HY27.out.old hb28
      have HDU28 : Hid (DOk w28 u9z.d none 0 0) := HDU27.out.old hb28
      have HOU28 : Hid (UAt w28 OU u9z none 0 0) := UAt.below HOU27.out hb28
      have HDT28 : Hid (TOk w28 t la ln os dt mt mt) := HDT27.out.old hb28
      have HOT28 : Hid (TAt w28 OT t la ln lc dt mt mt) := TAt.below HOT27.out hb28
      have HDC28 : Hid (DOk w28 ct (some ⟨g, 0, none⟩) L L) := HDC27.out.old hb28
      have HDV28 : Hid (TOk w28 t ra ln ps dv mt mt) := HDV27.out.old hb28
      have HOV28 : Hid (TAt w28 OV t ra ln rc dv mt mt) := TAt.below HOV27.out hb28
      have HDE28 : Hid (DOk w28 ct (some ⟨g2, 0, none⟩) L L) := HDE27.out.old hb28
      clear HX27 HY27 HDU27 HOU27 HDT27 HOT27 HDC27 HDV27 HOV27 HDE27
      clear hb28
      have QA := alike_any (some ⟨g, 0, none⟩) (some ⟨g2, 0, none⟩) L L L L ct ct w28 HDC28.out.dl HDE28.out.dl HDC28.out.seg HDE28.out.seg HDC28.out.d256 HDE28.out.d256
      rw [decide_eq_true (rfl : ct = ct)] at QA
      have HQA : Hid _ := QA
      clear QA
      go_wp2_with fail
      refine Calls.mono HQA.out ?_
      rintro e w29 ⟨rfl, rfl⟩
      clear HQA
      have hle : (L : Int) ≤ (nb : Int) := by have := HLE.out; omega
      go_wp2
      go_ret
      exact ⟨rfl, bel28⟩
    · obtain ⟨rfl, rfl, rfl, rfl, rfl, rfl, rfl⟩ := HT2.out hzt
      clear HT1 HT2
      have bq : ((eh : Int) != 0) = true := by rw [bne_iff_ne]; omega
      have QA : Hid _ := sameT_true t9z none none 0 0 0 [] [] none none 0 0 0 w21 (.inl rfl) (.inl rfl) rfl rfl (by omega) HDT21.out.d HDT21.out.d
      go_wp2_with fail
      refine Calls.mono (num9_any (eh : Int) _) ?_
      rintro e wn ⟨rfl, rfl⟩
      go_wp2_with (first | (refine wpList_load_t9 (.tmp 16) rfl OT t9z none 0 0 none 0 0 rfl HOT21.out rfl ?_) | (refine wpList_build0t rfl rfl ?_))
      refine Calls.mono QA.out ?_
      rintro e w22 ⟨rfl, hb22⟩
      clear QA
      have bel22 := bthen bel21 hb22
      have HX22 : Hid (Boxed w22 B V x) := HX21.out.old hb22
      have HY22 : Hid (Boxed w22 (B + 1) U y) := HY21.out.old hb22
      have HDU22 : Hid (DOk w22 u9z.d none 0 0) := HDU21.out.old hb22
      have HOU22 : Hid (UAt w22 OU u9z none 0 0) := UAt.below HOU21.out hb22
      have HDT22 : Hid (TOk w22 t9z none 0 [] none 0 0) := HDT21.out.old hb22
      have HOT22 : Hid (TAt w22 OT t9z none 0 0 none 0 0) := TAt.below HOT21.out hb22
      clear HX21 HY21 HDU21 HOU21 HDT21 HOT21
      clear hb22
      have bz : ((er : Int) == 0) = false := by rw [beq_eq_false_iff_ne]; omega
      have QB : Hid _ := sameU_true u9z none none 0 0 0 w22 (d_zero w22) (d_zero w22)
      go_wp2_with fail
      refine Calls.mono (num9_any (er : Int) _) ?_
      rintro e wn ⟨rfl, rfl⟩
      go_wp2_with (first | (refine wpList_load_u9 (.tmp 8) rfl OU u9z none 0 0 rfl HOU22.out rfl ?_) | (refine wpList_build0u rfl rfl ?_))
      refine Calls.mono QB.out ?_
      rintro e w23 ⟨rfl, hb23⟩
      clear QB
      have bel23 := bthen bel22 hb23
      have HX23 : Hid (Boxed w23 B V x) := HX22.out.old hb23
      have HY23 : Hid (Boxed w23 (B + 1) U y) := HY22.out.old hb23
      have HDU23 : Hid (DOk w23 u9z.d none 0 0) := HDU22.out.old hb23
      have HOU23 : Hid (UAt w23 OU u9z none 0 0) := UAt.below HOU22.out hb23
      have HDT23 : Hid (TOk w23 t9z none 0 [] none 0 0) := HDT22.out.old hb23
      have HOT23 : Hid (TAt w23 OT t9z none 0 0 none 0 0) := TAt.below HOT22.out hb23
      clear HX22 HY22 HDU22 HOU22 HDT22 HOT22
      clear hb23
      go_wp2
      go_ret
      exact ⟨rfl, bel23⟩
end Go.Proofs.YtmeieggnfmhnmaaDoor
