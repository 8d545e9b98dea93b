/-
  The statements' started.
-/
import Derived.Test.YtfoeepbndfnifaaDoorL9St0
import Derived.Lib.SlBytesConst
namespace Go.Proofs.YtfoeepbndfnifaaDoor
open Go.RowKit
open L4 (U9 T9)

def u0 : U9 := ⟨1, 2, false, [104, 105]⟩
def b0 : List Nat := [0, 1, 0, 2, 0, 10, 131, 107, 104, 105]
def t0 : T9 := ⟨1, 2, 0, 0, 0, 0, 0, [(3, [7])], []⟩
def t1 : T9 := ⟨0, 0, 0, 0, 0, 0, 0, [(2, [5, 180])], []⟩
theorem u0_ser : L4.uSer u0 (psL 4 4 ipA ipZ 17 10) = b0 := by decide
theorem u0_chk : L4.uChk 4 u0 = 0 := by decide
theorem b0_pe : L4.uPE 4 true (psL 4 4 ipA ipZ 17 10) b0 = 0 := by
  rw [← u0_ser]; exact L4.uPE_ser u0 _ (psL_even _ _ _ _ _ _) u0_chk
theorem b0_p : L4.uP b0 = u0 := by rw [← u0_ser]; exact L4.uP_ser u0 _ u0_chk
theorem t0_chk : L4.tChk t0 = 0 := by decide
theorem t0_put : (I4.putO t0.os).length = 4 := by decide
theorem seg_lit (w : World) (l : List Nat) (t : TypeId) : Seg .u8 (w.alloc (.cells ((l.map (fun x => Value.int .u8 (x : Nat))).toArray) t)) (some ⟨w.heap.size, 0, none⟩) (toI l) := by
  refine .inr ⟨_, _, rfl, fun i hi => ?_⟩
  have hi' : i < l.length := by simpa [toI] using hi
  rw [Nat.zero_add, World.cell?_alloc_at _ _ _ _ rfl]
  simp [toI, List.getD, hi']
theorem seg_mark (w : World) (l : List Nat) (t : TypeId) (f : Nat × Nat) : Seg .u8 (w.alloc (.cells ((l.map (fun x => Value.int .u8 (x : Nat))).toArray) t f)) (some ⟨w.heap.size, 0, none⟩) (toI l) := by
  refine .inr ⟨_, _, rfl, fun i hi => ?_⟩
  have hi' : i < l.length := by simpa [toI] using hi
  have hn := heap_alloc_new w (.cells ((l.map (fun x => Value.int .u8 (x : Nat))).toArray) t f)
  rw [Nat.zero_add]
  unfold World.cell?
  simp only [hn]
  simp [toI, List.getD, hi']
theorem wpList_make_z {ops : Array Oper} {rest : List Oper} {o : Oper} {a : Act} {w : World} {Q : Exit → Act → World → Prop} (hg : o.guard = none) (l c : Operand) (ho : o.op = .makeSlice 25 l c) (n : Nat) (hn : n ≤ 1048576) (L : Int) (hL : L = (n : Int)) (hl : a.eval l = .int .i64 L) (hc : a.eval c = .int .i64 L)
    (hh : ∀ w', Below w.heap.size w w' → wpList Tryd.prog ops Q rest (a.put o.dst (.slice (some ⟨w.heap.size, 0, none⟩) n n)) w') : wpList Tryd.prog ops Q (o :: rest) a w := by
  obtain ⟨i0, hi, hz0, hz1, hz2⟩ := info_parts Tryd.infoByte
  exact wpList_make_full w hg l c 25 ho w.heap.size 5 i0 (.int .u8 0) 1 Tryd.underlying25 hi hz0 hz1 .i64 .i64 L L n hl hc hL hL (by rw [hz2]; omega) (by unfold maxLen; omega) (Nat.le_refl _) (fun w' _ h2 => hh w' (below_of_grown h2 rfl))
/-- two rows of an address' zeros -/
theorem ip_rows (w : World) : IpRow ((w.alloc (.cells (ipCells 0 (fun _ => 0)) 24)).alloc (.cells (ipCells 0 (fun _ => 0)) 24)) w.heap.size (ipCells 0 (fun _ => 0)) ∧ IpRow ((w.alloc (.cells (ipCells 0 (fun _ => 0)) 24)).alloc (.cells (ipCells 0 (fun _ => 0)) 24)) (w.heap.size + 1) (ipCells 0 (fun _ => 0)) ∧ Below w.heap.size w ((w.alloc (.cells (ipCells 0 (fun _ => 0)) 24)).alloc (.cells (ipCells 0 (fun _ => 0)) 24)) := by
  refine ⟨((Below.refl _ _).alloc (Nat.le_refl _) _ |>.block w.heap.size (by simp)).trans (heap_alloc_new _ _), ?_, ((Below.refl _ _).alloc (Nat.le_refl _) _).alloc (by simp) _⟩
  have := heap_alloc_new (w.alloc (.cells (ipCells 0 (fun _ => 0)) 24)) (.cells (ipCells 0 (fun _ => 0)) 24)
  rw [World.size_alloc] at this
  exact this
set_option maxHeartbeats 3200000 in
set_option maxRecDepth 100000 in
theorem started_any (w : World) (hT : Tabs w) : Calls Tryd.prog 4 #[] w fun e w' => e = .returned (.bool true) ∧ Below w.heap.size w w' := by
  have HT : Hid (∀ A, Below w.heap.size w A → Tabs A) := fun A hA => hT.old hA
  have QE : Hid _ := ends_any w
  clear hT
  go_enter Tryd.func4, Tryd.ntmps4
  go_wp2_with fail
  refine Calls.mono QE.out ?_
  rintro e w1 ⟨rfl, hb1⟩
  obtain ⟨h1, h2, hb⟩ := ip_rows w1
  have H1 : Hid _ := h1
  have H2 : Hid _ := h2
  have hbW := bthen hb1 hb
  clear QE h1 h2 hb
  go_wp2_with (first | (refine wpList_alloc_ip rfl rfl ?_) | (refine wpList_store_ip (.tmp 1) (.tmp 22) rfl rfl w1.heap.size 0 4 (fun _ => 0) ipA rfl rfl H1.out rfl ?_))
  intro w2 hA hcA
  have HA : Hid (IpRow w2 w1.heap.size (ipCells 4 ipA)) := hA
  have HB2 : Hid (IpRow w2 (w1.heap.size + 1) (ipCells 0 (fun _ => 0))) := (hcA.block (w1.heap.size + 1) (Array.getElem?_eq_some_iff.1 H2.out).1 (by omega)).trans H2.out
  have hb2 : Below w.heap.size w w2 := hbW.trans (hcA.below (fun q e => by have e' : q = w1.heap.size := e; have := hb1.size; omega) hbW.size)
  clear hA hcA hbW H1 H2
  go_wp2_with (first | (refine wpList_store_ip (.tmp 2) (.tmp 23) rfl rfl (w1.heap.size + 1) 0 4 (fun _ => 0) ipZ rfl rfl HB2.out rfl ?_))
  intro w3 hB hcB
  have HB3 : Hid (Boxed w3 (w1.heap.size + 1) 4 ipZ) := ipRow_boxed hB
  have HA3 : Hid (Boxed w3 w1.heap.size 4 ipA) := ipRow_boxed ((hcB.block w1.heap.size (Array.getElem?_eq_some_iff.1 HA.out).1 (by omega)).trans HA.out)
  have bel3 : Below w.heap.size w w3 := hb2.trans (hcB.below (fun q e => by have e' : q = w1.heap.size + 1 := e; have := hb1.size; omega) hb2.size)
  obtain ⟨B, hB0⟩ : ∃ B, B = w1.heap.size := ⟨_, rfl⟩
  rw [← hB0] at HB3 HA3 ⊢
  clear hB hcB HA HB2 hb2 hb1 hB0
  have kc := fun (w : World) (C : Array Value) (n c : Nat) => Lib.run_convert_bytes_const (P := Tryd.prog) w 25 5 C n c Tryd.underlying25 Tryd.underlying5
  have bl : Below w3.heap.size w3 (w3.alloc (.cells #[.int .u8 104, .int .u8 105] 5 (2, 3))) := (Below.refl _ _).alloc (Nat.le_refl _) _
  have sl : Seg .u8 (w3.alloc (.cells #[.int .u8 104, .int .u8 105] 5 (2, 3))) (some ⟨w3.heap.size, 0, none⟩) (toI [104, 105]) := seg_mark w3 [104, 105] 5 (2, 3)
  have bl2 : Below (w3.alloc (.cells #[.int .u8 104, .int .u8 105] 5 (2, 3))).heap.size (w3.alloc (.cells #[.int .u8 104, .int .u8 105] 5 (2, 3))) ((w3.alloc (.cells #[.int .u8 104, .int .u8 105] 5 (2, 3))).alloc (.cells (uC u0 (some ⟨w3.heap.size, 0, none⟩) 2 2) 37)) := (Below.refl _ _).alloc (Nat.le_refl _) _
  have ul := uAt_new (w3.alloc (.cells #[.int .u8 104, .int .u8 105] 5 (2, 3))) u0 (some ⟨w3.heap.size, 0, none⟩) 2 2
  rw [World.size_alloc] at ul
  obtain ⟨w4, hw4⟩ : ∃ w4, w4 = (w3.alloc (.cells #[.int .u8 104, .int .u8 105] 5 (2, 3))).alloc (.cells #[.int .i64 1, .int .i64 2, .bool false, .slice (some ⟨w3.heap.size, 0, none⟩) 2 2] 37) := ⟨_, rfl⟩
  have hw4' : w4 = (w3.alloc (.cells #[.int .u8 104, .int .u8 105] 5 (2, 3))).alloc (.cells (uC u0 (some ⟨w3.heap.size, 0, none⟩) 2 2) 37) := hw4
  rw [← hw4'] at bl2 ul
  have b34 := bthen bl bl2
  have bel4 := bthen bel3 b34
  have HA4 : Hid (Boxed w4 B 4 ipA) := HA3.out.old b34
  have HB4 : Hid (Boxed w4 (B + 1) 4 ipZ) := HB3.out.old b34
  obtain ⟨D, hD⟩ : ∃ D, D = w3.heap.size := ⟨_, rfl⟩
  rw [← hD] at ul sl hw4
  have HD4 : Hid (DOk w4 u0.d (some ⟨D, 0, none⟩) 2 2) := ⟨rfl, sl.old bl2, by decide, by decide, by decide, by decide⟩
  have HU4 : Hid (UAt w4 (D + 1) u0 (some ⟨D, 0, none⟩) 2 2) := ul
  have HW4 : Hid ((w3.alloc (.cells #[.int .u8 104, .int .u8 105] 5 (2, 3))).alloc (.cells #[.int .i64 1, .int .i64 2, .bool false, .slice (some ⟨D, 0, none⟩) 2 2] 37) = w4) := hw4.symm
  have HD : Hid (w3.heap.size = D) := hD.symm
  have QP : Hid _ := putU_any 4 4 ipA ipZ u0 (some ⟨D, 0, none⟩) 2 2 w4 (HT.out w4 bel4).u HD4.out ipA256 ipZ256
  clear bl bl2 sl ul hw4 hw4' b34 hD HA3 HB3
  go_upto_region 3 with fail
  rw [HD.out, HW4.out]
  clear HD HW4 kc
  go_wp2_with (first | (refine wpList_load_ip (.tmp 1) rfl B 4 ipA rfl HA4.out rfl ?_) | (refine wpList_load_ip (.tmp 2) rfl (B + 1) 4 ipZ rfl HB4.out rfl ?_) | (refine wpList_load_u9 (.tmp 3) rfl (D + 1) u0 (some ⟨D, 0, none⟩) 2 2 rfl HU4.out rfl ?_))
  refine Calls.mono QP.out ?_
  rintro e w5 ⟨v, er, rfl, her, hb5, hr5⟩
  have her0 : er = 0 := by rw [her]; unfold L4.uPutE; rw [psAZ]; exact u0_chk
  subst her0
  obtain ⟨g5, rfl, ho5⟩ : ∃ g, v = .slice (some ⟨g, 0, none⟩) 10 10 ∧ OwnB w5 w4.heap.size (.slice (some ⟨g, 0, none⟩) 10 10) 10 b0 := by
    rcases hr5 with ⟨_, g, h1, h2⟩ | ⟨h1, _⟩
    · rw [show (psL 4 4 ipA ipZ 17 ((8 + 2 : Nat) : Int)) = psL 4 4 ipA ipZ 17 10 from rfl, u0_ser] at h2
      exact ⟨g, h1, h2⟩
    · exact absurd rfl h1
  have bel5 := bthen bel4 hb5
  have HA5 : Hid (Boxed w5 B 4 ipA) := HA4.out.old hb5
  have HB5 : Hid (Boxed w5 (B + 1) 4 ipZ) := HB4.out.old hb5
  have HU5 : Hid (UAt w5 (D + 1) u0 (some ⟨D, 0, none⟩) 2 2) := HU4.out.below hb5
  have HD5 : Hid (DOk w5 u0.d (some ⟨D, 0, none⟩) 2 2) := HD4.out.old hb5
  have HG5 : Hid (OwnB w5 w4.heap.size (.slice (some ⟨g5, 0, none⟩) 10 10) 10 b0) := ho5
  clear QP her hr5 hb5 ho5 HA4 HB4 HU4 HD4
  have hl5 : Below w5.heap.size w5 (w5.alloc (.cells #[.int .u8 0, .int .u8 1, .int .u8 0, .int .u8 2, .int .u8 0, .int .u8 10, .int .u8 131, .int .u8 107, .int .u8 104, .int .u8 105] 5)) := (Below.refl _ _).alloc (Nat.le_refl _) _
  have sg5 : Seg .u8 (w5.alloc (.cells #[.int .u8 0, .int .u8 1, .int .u8 0, .int .u8 2, .int .u8 0, .int .u8 10, .int .u8 131, .int .u8 107, .int .u8 104, .int .u8 105] 5)) (some ⟨w5.heap.size, 0, none⟩) (toI b0) := seg_mark w5 b0 5 (0, 0)
  have QU : Hid _ := parseU_any 4 4 ipA ipZ (some ⟨w5.heap.size, 0, none⟩) 10 10 b0 (w5.alloc (.cells #[.int .u8 0, .int .u8 1, .int .u8 0, .int .u8 2, .int .u8 0, .int .u8 10, .int .u8 131, .int .u8 107, .int .u8 104, .int .u8 105] 5)) (HT.out _ (bthen bel5 hl5)).u ⟨rfl, sg5, by decide, by decide, by decide, by decide⟩ ipA256 ipZ256
  have HL5 : Hid _ := hl5
  have HSG : Hid (Seg .u8 (w5.alloc (.cells #[.int .u8 0, .int .u8 1, .int .u8 0, .int .u8 2, .int .u8 0, .int .u8 10, .int .u8 131, .int .u8 107, .int .u8 104, .int .u8 105] 5)) (some ⟨w5.heap.size, 0, none⟩) (toI b0)) := sg5
  clear hl5 sg5
  go_wp2_with (first | (refine wpList_load_ip (.tmp 1) rfl B 4 ipA rfl HA5.out rfl ?_) | (refine wpList_load_ip (.tmp 2) rfl (B + 1) 4 ipZ rfl HB5.out rfl ?_))
  refine Calls.mono QU.out ?_
  rintro e w6 ⟨er, rfl, hb6, her⟩
  have her0 : er = 0 := by rw [her, psAZ]; exact b0_pe
  subst her0
  have b56 := bthen HL5.out hb6
  obtain ⟨dv, hdv⟩ : ∃ dv, dv = cutA (some ⟨w5.heap.size, 0, none⟩) 8 2 := ⟨_, rfl⟩
  have epu : puC 0 (some ⟨w5.heap.size, 0, none⟩) b0 = #[.int .i64 1, .int .i64 2, .bool false, .slice dv 2 2] := by
    unfold puC
    rw [if_pos rfl, b0_p, hdv]
    rfl
  have sdv : Seg .u8 w6 dv (toI [104, 105]) := by
    have h := (Seg.old HSG.out hb6).cut 8 2 (by decide)
    rw [toI_drop, toI_take, ← hdv] at h
    exact h
  rw [epu]
  have HE6 : Hid (DOk w6 u0.d dv 2 2) := ⟨rfl, sdv, by decide, by decide, by decide, by decide⟩
  have bel6 := bthen bel5 b56
  have HA6 : Hid (Boxed w6 B 4 ipA) := HA5.out.old b56
  have HB6 : Hid (Boxed w6 (B + 1) 4 ipZ) := HB5.out.old b56
  have HU6 : Hid (UAt w6 (D + 1) u0 (some ⟨D, 0, none⟩) 2 2) := UAt.below HU5.out b56
  have HD6 : Hid (DOk w6 u0.d (some ⟨D, 0, none⟩) 2 2) := HD5.out.old b56
  have HG6 : Hid (OwnB w6 w4.heap.size (.slice (some ⟨g5, 0, none⟩) 10 10) 10 b0) := own_below HG5.out b56
  clear HA5 HB5 HU5 HD5 HG5
  clear QU hb6 her b56 hdv epu sdv HL5 HSG
  have hl6 : Below w6.heap.size w6 (w6.alloc (.cells (uC u0 dv 2 2) 37)) := (Below.refl _ _).alloc (Nat.le_refl _) _
  have un6 := uAt_new w6 u0 dv 2 2
  obtain ⟨w7, hw7⟩ : ∃ w7, w7 = w6.alloc (.cells #[.int .i64 1, .int .i64 2, .bool false, .slice dv 2 2] 37) := ⟨_, rfl⟩
  have hw7' : w7 = w6.alloc (.cells (uC u0 dv 2 2) 37) := hw7
  rw [← hw7'] at hl6 un6
  have HW7 : Hid (w6.alloc (.cells #[.int .i64 1, .int .i64 2, .bool false, .slice dv 2 2] 37) = w7) := hw7.symm
  obtain ⟨V6, hV6⟩ : ∃ V6, V6 = w6.heap.size := ⟨_, rfl⟩
  rw [← hV6] at un6
  have HV7 : Hid (UAt w7 V6 u0 dv 2 2) := un6
  have HVs : Hid (w6.heap.size = V6) := hV6.symm
  have bel7 := bthen bel6 hl6
  have HA7 : Hid (Boxed w7 B 4 ipA) := HA6.out.old hl6
  have HB7 : Hid (Boxed w7 (B + 1) 4 ipZ) := HB6.out.old hl6
  have HU7 : Hid (UAt w7 (D + 1) u0 (some ⟨D, 0, none⟩) 2 2) := UAt.below HU6.out hl6
  have HD7 : Hid (DOk w7 u0.d (some ⟨D, 0, none⟩) 2 2) := HD6.out.old hl6
  have HG7 : Hid (OwnB w7 w4.heap.size (.slice (some ⟨g5, 0, none⟩) 10 10) 10 b0) := own_below HG6.out hl6
  have HE7 : Hid (DOk w7 u0.d dv 2 2) := HE6.out.old hl6
  clear HA6 HB6 HU6 HD6 HG6 HE6
  clear hl6 un6 hw7 hw7' hV6
  go_upto_region 5 with fail
  rw [HVs.out, HW7.out]
  clear HVs HW7
  obtain ⟨Q, hQ⟩ : ∃ Q, Q = w7.heap.size := ⟨_, rfl⟩
  have h8a : Below w7.heap.size w7 (w7.alloc (.cells #[.int .u8 7] 5)) := (Below.refl _ _).alloc (Nat.le_refl _) _
  have h8b : Below (w7.alloc (.cells #[.int .u8 7] 5)).heap.size (w7.alloc (.cells #[.int .u8 7] 5)) ((w7.alloc (.cells #[.int .u8 7] 5)).alloc (.cells #[.int .i64 3, .slice (some ⟨Q, 0, none⟩) 1 1] 68)) := (Below.refl _ _).alloc (Nat.le_refl _) _
  have s8 : Seg .u8 (w7.alloc (.cells #[.int .u8 7] 5)) (some ⟨w7.heap.size, 0, none⟩) (toI [7]) := seg_mark w7 [7] 5 (0, 0)
  have o8 : OptsAt ((w7.alloc (.cells #[.int .u8 7] 5)).alloc (.cells #[.int .i64 3, .slice (some ⟨Q, 0, none⟩) 1 1] 68)) (some ⟨Q + 1, 0, none⟩) [⟨3, some ⟨Q, 0, none⟩, 1, [7]⟩] := by
    rw [hQ]
    refine .inr ⟨w7.heap.size + 1, 0, rfl, by simp, fun i o ho => ?_⟩
    have hi : i = 0 := by
      rcases Nat.lt_or_ge i 1 with q | q
      · omega
      · rw [List.getElem?_eq_none (by simpa using q)] at ho; cases ho
    subst hi
    simp at ho
    subst ho
    rw [hQ] at h8b
    exact ⟨⟨s8.old h8b, (by intro x hx; simp at hx; omega), (by show 1 ≤ 1; omega), (by show 1 ≤ 9223372036854775807; omega)⟩, by simp [go_sem], by simp [go_sem]⟩
  have h8c : Below ((w7.alloc (.cells #[.int .u8 7] 5)).alloc (.cells #[.int .i64 3, .slice (some ⟨Q, 0, none⟩) 1 1] 68)).heap.size ((w7.alloc (.cells #[.int .u8 7] 5)).alloc (.cells #[.int .i64 3, .slice (some ⟨Q, 0, none⟩) 1 1] 68)) (((w7.alloc (.cells #[.int .u8 7] 5)).alloc (.cells #[.int .i64 3, .slice (some ⟨Q, 0, none⟩) 1 1] 68)).alloc (.cells (tC t0 (some ⟨Q + 1, 0, none⟩) 1 1 none 0 0) 45)) := (Below.refl _ _).alloc (Nat.le_refl _) _
  have t8 := tAt_new ((w7.alloc (.cells #[.int .u8 7] 5)).alloc (.cells #[.int .i64 3, .slice (some ⟨Q, 0, none⟩) 1 1] 68)) t0 (some ⟨Q + 1, 0, none⟩) 1 1 none 0 0
  rw [World.size_alloc, World.size_alloc, ← hQ] at t8
  obtain ⟨w8, hw8⟩ : ∃ w8, w8 = ((w7.alloc (.cells #[.int .u8 7] 5)).alloc (.cells #[.int .i64 3, .slice (some ⟨Q, 0, none⟩) 1 1] 68)).alloc (.cells #[.int .i64 1, .int .i64 2, .int .i64 0, .int .i64 0, .int .i64 0, .int .i64 0, .int .i64 0, .slice (some ⟨Q + 1, 0, none⟩) 1 1, .slice none 0 0] 45) := ⟨_, rfl⟩
  have hw8' : w8 = ((w7.alloc (.cells #[.int .u8 7] 5)).alloc (.cells #[.int .i64 3, .slice (some ⟨Q, 0, none⟩) 1 1] 68)).alloc (.cells (tC t0 (some ⟨Q + 1, 0, none⟩) 1 1 none 0 0) 45) := hw8
  rw [← hw8'] at h8c t8
  have b78 := bthen (bthen h8a h8b) h8c
  have HK8 : Hid (TOk w8 t0 (some ⟨Q + 1, 0, none⟩) 1 [⟨3, some ⟨Q, 0, none⟩, 1, [7]⟩] none 0 0) := ⟨rfl, rfl, o8.old h8c, by decide, ⟨rfl, .inl rfl, (by intro x hx; cases hx), by decide, by decide, by decide⟩⟩
  have HT8 : Hid (TAt w8 (Q + 2) t0 (some ⟨Q + 1, 0, none⟩) 1 1 none 0 0) := t8
  have HW8 : Hid (((w7.alloc (.cells #[.int .u8 7] 5)).alloc (.cells #[.int .i64 3, .slice (some ⟨Q, 0, none⟩) 1 1] 68)).alloc (.cells #[.int .i64 1, .int .i64 2, .int .i64 0, .int .i64 0, .int .i64 0, .int .i64 0, .int .i64 0, .slice (some ⟨Q + 1, 0, none⟩) 1 1, .slice none 0 0] 45) = w8) := hw8.symm
  have HQ : Hid (w7.heap.size = Q) := hQ.symm
  have bel8 := bthen bel7 b78
  have HA8 : Hid (Boxed w8 B 4 ipA) := HA7.out.old b78
  have HB8 : Hid (Boxed w8 (B + 1) 4 ipZ) := HB7.out.old b78
  have HU8 : Hid (UAt w8 (D + 1) u0 (some ⟨D, 0, none⟩) 2 2) := UAt.below HU7.out b78
  have HD8 : Hid (DOk w8 u0.d (some ⟨D, 0, none⟩) 2 2) := HD7.out.old b78
  have HG8 : Hid (OwnB w8 w4.heap.size (.slice (some ⟨g5, 0, none⟩) 10 10) 10 b0) := own_below HG7.out b78
  have HE8 : Hid (DOk w8 u0.d dv 2 2) := HE7.out.old b78
  have HV8 : Hid (UAt w8 V6 u0 dv 2 2) := UAt.below HV7.out b78
  clear HA7 HB7 HU7 HD7 HG7 HE7 HV7
  clear h8a h8b h8c s8 o8 t8 hw8 hw8' b78 hQ
  go_upto_region 6 with fail
  rw [HQ.out, HW8.out]
  clear HQ HW8
  have QP : Hid _ := putT_any 4 4 ipA ipZ t0 (some ⟨Q + 1, 0, none⟩) 1 1 [⟨3, some ⟨Q, 0, none⟩, 1, [7]⟩] none 0 0 w8 (HT.out w8 bel8).t (HT.out w8 bel8).l HK8.out ipA256 ipZ256
  rw [t0_put] at QP
  go_wp2_with (first | (refine wpList_load_ip (.tmp 1) rfl B 4 ipA rfl HA8.out rfl ?_) | (refine wpList_load_ip (.tmp 2) rfl (B + 1) 4 ipZ rfl HB8.out rfl ?_) | (refine wpList_load_t9 (.tmp 8) rfl (Q + 2) t0 (some ⟨Q + 1, 0, none⟩) 1 1 none 0 0 rfl HT8.out rfl ?_))
  refine Calls.mono QP.out ?_
  rintro e w9 ⟨v, er, rfl, her, hb9, hr9⟩
  have her0 : er = 0 := by rw [her]; unfold L4.tPutE; rw [psAZ]; exact t0_chk
  subst her0
  obtain ⟨bt, hbt⟩ : ∃ bt, bt = L4.tSer t0 (psL 4 4 ipA ipZ 6 24) := ⟨_, rfl⟩
  obtain ⟨g9, rfl, ho9⟩ : ∃ g, v = .slice (some ⟨g, 0, none⟩) 24 24 ∧ OwnB w9 w8.heap.size (.slice (some ⟨g, 0, none⟩) 24 24) 24 bt := by
    rcases hr9 with ⟨_, g, h1, h2⟩ | ⟨h1, _⟩
    · refine ⟨g, h1, ?_⟩
      rw [hbt]
      exact h2
    · exact absurd rfl h1
  have hlt : bt.length = 24 := by rw [hbt, L4.tSer_len, t0_put]; rfl
  have hbt256 : ∀ x ∈ bt, x < 256 := by
    rw [hbt]
    intro x hx
    rcases List.mem_append.1 hx with h | h
    · exact L4.tHd_256 t0 _ (L4.tChk_zero t0_chk).1 (L4.tSum_le _ _) x h
    · have : L4.tRest t0 = [3, 3, 7, 0] := by decide
      rw [this] at h
      simp at h
      omega
  have d9 : DOk w9 bt (some ⟨g9, 0, none⟩) 24 24 := by
    have h := OwnB.part ho9 hbt256
    exact ⟨hlt, h.1, hbt256, by decide, by decide, by decide⟩
  have HBT : Hid (bt = L4.tSer t0 (psL 4 4 ipA ipZ 6 24)) := hbt
  have HLT : Hid (bt.length = 24) := hlt
  have bel9 := bthen bel8 hb9
  have HA9 : Hid (Boxed w9 B 4 ipA) := HA8.out.old hb9
  have HB9 : Hid (Boxed w9 (B + 1) 4 ipZ) := HB8.out.old hb9
  have HU9 : Hid (UAt w9 (D + 1) u0 (some ⟨D, 0, none⟩) 2 2) := UAt.below HU8.out hb9
  have HD9 : Hid (DOk w9 u0.d (some ⟨D, 0, none⟩) 2 2) := HD8.out.old hb9
  have HG9 : Hid (OwnB w9 w4.heap.size (.slice (some ⟨g5, 0, none⟩) 10 10) 10 b0) := own_below HG8.out hb9
  have HE9 : Hid (DOk w9 u0.d dv 2 2) := HE8.out.old hb9
  have HV9 : Hid (UAt w9 V6 u0 dv 2 2) := UAt.below HV8.out hb9
  have HT9 : Hid (TAt w9 (Q + 2) t0 (some ⟨Q + 1, 0, none⟩) 1 1 none 0 0) := TAt.below HT8.out hb9
  have HK9 : Hid (TOk w9 t0 (some ⟨Q + 1, 0, none⟩) 1 [⟨3, some ⟨Q, 0, none⟩, 1, [7]⟩] none 0 0) := HK8.out.old hb9
  clear HA8 HB8 HU8 HD8 HG8 HE8 HV8 HT8 HK8
  have QT : Hid _ := parseT_any 4 4 ipA ipZ (some ⟨g9, 0, none⟩) 24 24 bt w9 (HT.out w9 bel9).t (HT.out w9 bel9).l d9 ipA256 ipZ256
  have HD9t : Hid (DOk w9 bt (some ⟨g9, 0, none⟩) 24 24) := d9
  clear QP her hr9 hb9 ho9 hbt hlt d9 hbt256
  go_wp2_with (first | (refine wpList_load_ip (.tmp 1) rfl B 4 ipA rfl HA9.out rfl ?_) | (refine wpList_load_ip (.tmp 2) rfl (B + 1) 4 ipZ rfl HB9.out rfl ?_))
  refine Calls.mono QT.out ?_
  rintro e w10 ⟨er, la, ln, lc, rfl, hb10, her, hos⟩
  have her0 : er = 0 := by rw [her, psAZ, HBT.out]; exact L4.tPE_ser t0 _ (psL_even _ _ _ _ _ _) t0_chk
  subst her0
  obtain ⟨ol, hro, hln, hown⟩ := hos rfl
  have etp : L4.tP bt = t0 := by rw [HBT.out]; exact L4.tP_ser t0 _ t0_chk
  have eto : L4.tOb bt = I4.putO t0.os := by rw [HBT.out]; exact L4.tOb_ser t0 _
  have eth : L4.tH bt = 24 := by rw [HBT.out, L4.tH_ser]; unfold L4.tHs; rw [t0_put]
  have hmap : ol.map (fun o => I4.intO (I4.ov (L4.tOb bt) o)) = [(3, [7])] := by
    have := congrArg T9.os etp
    simp only [L4.tP, hro, Option.getD_some] at this
    exact this
  have hl1 : ol.length = 1 := by have := congrArg List.length hmap; simpa using this
  rw [hl1] at hln
  subst hln
  obtain ⟨d2, hd2⟩ : ∃ d2, d2 = cutA (some ⟨g9, 0, none⟩) 24 0 := ⟨_, rfl⟩
  have ept : ptC 0 la 1 lc (some ⟨g9, 0, none⟩) bt = #[.int .i64 1, .int .i64 2, .int .i64 0, .int .i64 0, .int .i64 0, .int .i64 0, .int .i64 0, .slice la 1 lc, .slice d2 0 0] := by
    unfold ptC
    rw [if_pos rfl, etp, eth, HLT.out, hd2]
    rfl
  have hoptb := (L4.readO_some hro)
  have hPat : OptsAt w10 la (ol.map (opV (a20 (some ⟨g9, 0, none⟩) 24) (L4.tOb bt))) := by
    have h9 := HD9t.out.old hb10
    have hsg := seg_pre (seg_rest h9.seg 20 24 (by rw [HLT.out]; omega) (by rw [HLT.out]; omega)) 4
    have e20 : (bt.drop 20).take 4 = L4.tOb bt := by unfold L4.tOb; rw [eth]
    rw [e20] at hsg
    have o256 : ∀ x ∈ L4.tOb bt, x < 256 := fun x hx => h9.d256 x (List.mem_of_mem_drop (List.mem_of_mem_take hx))
    refine opts_of_own hown hl1 hsg o256 (fun q hq => ((I4.scan_in _ 0 ol hoptb.2.1 (Nat.zero_le _) o256).1 q hq).2.2.2) (by have := hoptb.1; omega)
  obtain ⟨ps, hps⟩ : ∃ ps, ps = ol.map (opV (a20 (some ⟨g9, 0, none⟩) 24) (L4.tOb bt)) := ⟨_, rfl⟩
  rw [← hps] at hPat
  have HPV : Hid (vals ps = [(3, [7])] ∧ ps.length = 1) := by
    rw [hps]
    exact ⟨by rw [vals_opV]; exact hmap, by simp [hl1]⟩
  rw [ept]
  have HP10 : Hid (OptsAt w10 la ps) := hPat
  have bel10 := bthen bel9 hb10
  have HA10 : Hid (Boxed w10 B 4 ipA) := HA9.out.old hb10
  have HB10 : Hid (Boxed w10 (B + 1) 4 ipZ) := HB9.out.old hb10
  have HU10 : Hid (UAt w10 (D + 1) u0 (some ⟨D, 0, none⟩) 2 2) := UAt.below HU9.out hb10
  have HD10 : Hid (DOk w10 u0.d (some ⟨D, 0, none⟩) 2 2) := HD9.out.old hb10
  have HG10 : Hid (OwnB w10 w4.heap.size (.slice (some ⟨g5, 0, none⟩) 10 10) 10 b0) := own_below HG9.out hb10
  have HE10 : Hid (DOk w10 u0.d dv 2 2) := HE9.out.old hb10
  have HV10 : Hid (UAt w10 V6 u0 dv 2 2) := UAt.below HV9.out hb10
  have HT10 : Hid (TAt w10 (Q + 2) t0 (some ⟨Q + 1, 0, none⟩) 1 1 none 0 0) := TAt.below HT9.out hb10
  have HK10 : Hid (TOk w10 t0 (some ⟨Q + 1, 0, none⟩) 1 [⟨3, some ⟨Q, 0, none⟩, 1, [7]⟩] none 0 0) := HK9.out.old hb10
  clear HA9 HB9 HU9 HD9 HG9 HE9 HV9 HT9 HK9
  clear QT hb10 her hos hro hown etp eto eth hmap hl1 ept hoptb hPat hps HBT HLT HD9t hd2
  have hl10 : Below w10.heap.size w10 (w10.alloc (.cells (tC t0 la 1 lc d2 0 0) 45)) := (Below.refl _ _).alloc (Nat.le_refl _) _
  have tn := tAt_new w10 t0 la 1 lc d2 0 0
  obtain ⟨w11, hw11⟩ : ∃ w11, w11 = w10.alloc (.cells #[.int .i64 1, .int .i64 2, .int .i64 0, .int .i64 0, .int .i64 0, .int .i64 0, .int .i64 0, .slice la 1 lc, .slice d2 0 0] 45) := ⟨_, rfl⟩
  have hw11' : w11 = w10.alloc (.cells (tC t0 la 1 lc d2 0 0) 45) := hw11
  rw [← hw11'] at hl10 tn
  have HW11 : Hid (w10.alloc (.cells #[.int .i64 1, .int .i64 2, .int .i64 0, .int .i64 0, .int .i64 0, .int .i64 0, .int .i64 0, .slice la 1 lc, .slice d2 0 0] 45) = w11) := hw11.symm
  obtain ⟨S11, hS11⟩ : ∃ S11, S11 = w10.heap.size := ⟨_, rfl⟩
  rw [← hS11] at tn
  have HS11 : Hid (TAt w11 S11 t0 la 1 lc d2 0 0) := tn
  have HSs : Hid (w10.heap.size = S11) := hS11.symm
  have bel11 := bthen bel10 hl10
  have HA11 : Hid (Boxed w11 B 4 ipA) := HA10.out.old hl10
  have HB11 : Hid (Boxed w11 (B + 1) 4 ipZ) := HB10.out.old hl10
  have HU11 : Hid (UAt w11 (D + 1) u0 (some ⟨D, 0, none⟩) 2 2) := UAt.below HU10.out hl10
  have HD11 : Hid (DOk w11 u0.d (some ⟨D, 0, none⟩) 2 2) := HD10.out.old hl10
  have HG11 : Hid (OwnB w11 w4.heap.size (.slice (some ⟨g5, 0, none⟩) 10 10) 10 b0) := own_below HG10.out hl10
  have HE11 : Hid (DOk w11 u0.d dv 2 2) := HE10.out.old hl10
  have HV11 : Hid (UAt w11 V6 u0 dv 2 2) := UAt.below HV10.out hl10
  have HT11 : Hid (TAt w11 (Q + 2) t0 (some ⟨Q + 1, 0, none⟩) 1 1 none 0 0) := TAt.below HT10.out hl10
  have HK11 : Hid (TOk w11 t0 (some ⟨Q + 1, 0, none⟩) 1 [⟨3, some ⟨Q, 0, none⟩, 1, [7]⟩] none 0 0) := HK10.out.old hl10
  have HP11 : Hid (OptsAt w11 la ps) := OptsAt.old HP10.out hl10
  clear HA10 HB10 HU10 HD10 HG10 HE10 HV10 HT10 HK10 HP10
  clear hl10 tn hw11 hw11' hS11
  go_upto_region 8 with fail
  rw [HSs.out, HW11.out]
  clear HSs HW11
  have QN : Hid _ := parseT_any 4 4 ipA ipZ none 0 0 [] w11 (HT.out w11 bel11).t (HT.out w11 bel11).l ⟨rfl, .inl rfl, (by intro x hx; cases hx), by decide, by decide, by decide⟩ ipA256 ipZ256
  go_wp2_with (first | (refine wpList_load_ip (.tmp 1) rfl B 4 ipA rfl HA11.out rfl ?_) | (refine wpList_load_ip (.tmp 2) rfl (B + 1) 4 ipZ rfl HB11.out rfl ?_))
  refine Calls.mono QN.out ?_
  rintro e w12 ⟨er, la2, ln2, lc2, rfl, hb12, her, _⟩
  have her0 : er = 94 := by rw [her, psAZ]; decide
  subst her0
  have ept : ptC 94 la2 ln2 lc2 none [] = #[.int .i64 0, .int .i64 0, .int .i64 0, .int .i64 0, .int .i64 0, .int .i64 0, .int .i64 0, .slice none 0 0, .slice none 0 0] := by
    unfold ptC
    rw [if_neg (by decide)]
    rfl
  rw [ept]
  have bel12 := bthen bel11 hb12
  have HA12 : Hid (Boxed w12 B 4 ipA) := HA11.out.old hb12
  have HB12 : Hid (Boxed w12 (B + 1) 4 ipZ) := HB11.out.old hb12
  have HU12 : Hid (UAt w12 (D + 1) u0 (some ⟨D, 0, none⟩) 2 2) := UAt.below HU11.out hb12
  have HD12 : Hid (DOk w12 u0.d (some ⟨D, 0, none⟩) 2 2) := HD11.out.old hb12
  have HG12 : Hid (OwnB w12 w4.heap.size (.slice (some ⟨g5, 0, none⟩) 10 10) 10 b0) := own_below HG11.out hb12
  have HE12 : Hid (DOk w12 u0.d dv 2 2) := HE11.out.old hb12
  have HV12 : Hid (UAt w12 V6 u0 dv 2 2) := UAt.below HV11.out hb12
  have HT12 : Hid (TAt w12 (Q + 2) t0 (some ⟨Q + 1, 0, none⟩) 1 1 none 0 0) := TAt.below HT11.out hb12
  have HK12 : Hid (TOk w12 t0 (some ⟨Q + 1, 0, none⟩) 1 [⟨3, some ⟨Q, 0, none⟩, 1, [7]⟩] none 0 0) := HK11.out.old hb12
  have HP12 : Hid (OptsAt w12 la ps) := OptsAt.old HP11.out hb12
  have HS12 : Hid (TAt w12 S11 t0 la 1 lc d2 0 0) := TAt.below HS11.out hb12
  clear HA11 HB11 HU11 HD11 HG11 HE11 HV11 HT11 HK11 HP11 HS11
  clear QN hb12 her ept
  have hl12 : Below w12.heap.size w12 (w12.alloc (.cells #[.int .i64 0, .int .i64 0, .int .i64 0, .int .i64 0, .int .i64 0, .int .i64 0, .int .i64 0, .slice none 0 0, .slice none 0 0] 45)) := (Below.refl _ _).alloc (Nat.le_refl _) _
  obtain ⟨w13, hw13⟩ : ∃ w13, w13 = w12.alloc (.cells #[.int .i64 0, .int .i64 0, .int .i64 0, .int .i64 0, .int .i64 0, .int .i64 0, .int .i64 0, .slice none 0 0, .slice none 0 0] 45) := ⟨_, rfl⟩
  rw [← hw13] at hl12
  have HW13 : Hid (w12.alloc (.cells #[.int .i64 0, .int .i64 0, .int .i64 0, .int .i64 0, .int .i64 0, .int .i64 0, .int .i64 0, .slice none 0 0, .slice none 0 0] 45) = w13) := hw13.symm
  have bel13 := bthen bel12 hl12
  have HA13 : Hid (Boxed w13 B 4 ipA) := HA12.out.old hl12
  have HB13 : Hid (Boxed w13 (B + 1) 4 ipZ) := HB12.out.old hl12
  have HU13 : Hid (UAt w13 (D + 1) u0 (some ⟨D, 0, none⟩) 2 2) := UAt.below HU12.out hl12
  have HD13 : Hid (DOk w13 u0.d (some ⟨D, 0, none⟩) 2 2) := HD12.out.old hl12
  have HG13 : Hid (OwnB w13 w4.heap.size (.slice (some ⟨g5, 0, none⟩) 10 10) 10 b0) := own_below HG12.out hl12
  have HE13 : Hid (DOk w13 u0.d dv 2 2) := HE12.out.old hl12
  have HV13 : Hid (UAt w13 V6 u0 dv 2 2) := UAt.below HV12.out hl12
  have HT13 : Hid (TAt w13 (Q + 2) t0 (some ⟨Q + 1, 0, none⟩) 1 1 none 0 0) := TAt.below HT12.out hl12
  have HK13 : Hid (TOk w13 t0 (some ⟨Q + 1, 0, none⟩) 1 [⟨3, some ⟨Q, 0, none⟩, 1, [7]⟩] none 0 0) := HK12.out.old hl12
  have HP13 : Hid (OptsAt w13 la ps) := OptsAt.old HP12.out hl12
  have HS13 : Hid (TAt w13 S11 t0 la 1 lc d2 0 0) := TAt.below HS12.out hl12
  clear HA12 HB12 HU12 HD12 HG12 HE12 HV12 HT12 HK12 HP12 HS12
  clear hl12 hw13
  go_upto_region 9 with fail
  rw [HW13.out]
  clear HW13 HA13 HB13
  have h14a : Below w13.heap.size w13 (w13.alloc (.cells #[.int .u8 5, .int .u8 180] 5)) := (Below.refl _ _).alloc (Nat.le_refl _) _
  have h14b : Below (w13.alloc (.cells #[.int .u8 5, .int .u8 180] 5)).heap.size (w13.alloc (.cells #[.int .u8 5, .int .u8 180] 5)) ((w13.alloc (.cells #[.int .u8 5, .int .u8 180] 5)).alloc (.cells #[.int .i64 2, .slice (some ⟨w13.heap.size, 0, none⟩) 2 2] 68)) := (Below.refl _ _).alloc (Nat.le_refl _) _
  have s14 : Seg .u8 (w13.alloc (.cells #[.int .u8 5, .int .u8 180] 5)) (some ⟨w13.heap.size, 0, none⟩) (toI [5, 180]) := seg_mark w13 [5, 180] 5 (0, 0)
  have o14 : OptsAt ((w13.alloc (.cells #[.int .u8 5, .int .u8 180] 5)).alloc (.cells #[.int .i64 2, .slice (some ⟨w13.heap.size, 0, none⟩) 2 2] 68)) (some ⟨w13.heap.size + 1, 0, none⟩) [⟨2, some ⟨w13.heap.size, 0, none⟩, 2, [5, 180]⟩] := by
    refine .inr ⟨w13.heap.size + 1, 0, rfl, by simp, fun i o ho => ?_⟩
    have hi : i = 0 := by
      rcases Nat.lt_or_ge i 1 with q | q
      · omega
      · rw [List.getElem?_eq_none (by simpa using q)] at ho; cases ho
    subst hi
    simp at ho
    subst ho
    exact ⟨⟨s14.old h14b, (by intro x hx; simp at hx; omega), (by show 2 ≤ 2; omega), (by show 2 ≤ 9223372036854775807; omega)⟩, by simp [go_sem], by simp [go_sem]⟩
  have b1314 := bthen h14a h14b
  have QM : Hid _ := mss_any t1 (some ⟨w13.heap.size + 1, 0, none⟩) 1 1 [⟨2, some ⟨w13.heap.size, 0, none⟩, 2, [5, 180]⟩] none 0 0 ((w13.alloc (.cells #[.int .u8 5, .int .u8 180] 5)).alloc (.cells #[.int .i64 2, .slice (some ⟨w13.heap.size, 0, none⟩) 2 2] 68)) rfl o14 (by decide)
  rw [show L4.mss (vals [⟨2, some ⟨w13.heap.size, 0, none⟩, 2, [5, 180]⟩]) = (1460, true) from rfl] at QM
  have HB1314 : Hid _ := b1314
  clear h14a h14b s14 o14 b1314
  go_wp2_with fail
  refine Calls.mono QM.out ?_
  rintro e w15 ⟨rfl, hb15⟩
  have b15 := bthen HB1314.out hb15
  have bel15 := bthen bel13 b15
  have HU15 : Hid (UAt w15 (D + 1) u0 (some ⟨D, 0, none⟩) 2 2) := UAt.below HU13.out b15
  have HD15 : Hid (DOk w15 u0.d (some ⟨D, 0, none⟩) 2 2) := HD13.out.old b15
  have HG15 : Hid (OwnB w15 w4.heap.size (.slice (some ⟨g5, 0, none⟩) 10 10) 10 b0) := own_below HG13.out b15
  have HE15 : Hid (DOk w15 u0.d dv 2 2) := HE13.out.old b15
  have HV15 : Hid (UAt w15 V6 u0 dv 2 2) := UAt.below HV13.out b15
  have HT15 : Hid (TAt w15 (Q + 2) t0 (some ⟨Q + 1, 0, none⟩) 1 1 none 0 0) := TAt.below HT13.out b15
  have HK15 : Hid (TOk w15 t0 (some ⟨Q + 1, 0, none⟩) 1 [⟨3, some ⟨Q, 0, none⟩, 1, [7]⟩] none 0 0) := HK13.out.old b15
  have HP15 : Hid (OptsAt w15 la ps) := OptsAt.old HP13.out b15
  have HS15 : Hid (TAt w15 S11 t0 la 1 lc d2 0 0) := TAt.below HS13.out b15
  clear HU13 HD13 HG13 HE13 HV13 HT13 HK13 HP13 HS13
  clear QM hb15 b15 HB1314
  have QC : Hid _ := clamp_any t0 (some ⟨Q + 1, 0, none⟩) 1 1 [⟨3, some ⟨Q, 0, none⟩, 1, [7]⟩] none 0 0 9 w15 rfl HK15.out.oat (by decide) (by intro o ho; simp at ho; subst ho; simp)
  go_wp2_with (first | (refine wpList_load_t9 (.tmp 8) rfl (Q + 2) t0 (some ⟨Q + 1, 0, none⟩) 1 1 none 0 0 rfl HT15.out rfl ?_))
  refine Calls.mono QC.out ?_
  rintro e w16 ⟨G, qs, rfl, hcl⟩
  have hvq : vals qs = [(3, [7])] := by rw [hcl.vs]; show List.map (L4.clO (synB 0) 9) [((3 : Int), [7])] = [(3, [7])]; decide
  have hR16 := hcl.opts
  have b16 := hcl.bel
  have HQV : Hid (vals qs = [(3, [7])] ∧ qs.length = 1) := ⟨hvq, hcl.pl⟩
  have HR16 : Hid (OptsAt w16 (some ⟨G, 0, none⟩) qs) := hR16
  have bel16 := bthen bel15 b16
  have HU16 : Hid (UAt w16 (D + 1) u0 (some ⟨D, 0, none⟩) 2 2) := UAt.below HU15.out b16
  have HD16 : Hid (DOk w16 u0.d (some ⟨D, 0, none⟩) 2 2) := HD15.out.old b16
  have HG16 : Hid (OwnB w16 w4.heap.size (.slice (some ⟨g5, 0, none⟩) 10 10) 10 b0) := own_below HG15.out b16
  have HE16 : Hid (DOk w16 u0.d dv 2 2) := HE15.out.old b16
  have HV16 : Hid (UAt w16 V6 u0 dv 2 2) := UAt.below HV15.out b16
  have HT16 : Hid (TAt w16 (Q + 2) t0 (some ⟨Q + 1, 0, none⟩) 1 1 none 0 0) := TAt.below HT15.out b16
  have HK16 : Hid (TOk w16 t0 (some ⟨Q + 1, 0, none⟩) 1 [⟨3, some ⟨Q, 0, none⟩, 1, [7]⟩] none 0 0) := HK15.out.old b16
  have HP16 : Hid (OptsAt w16 la ps) := OptsAt.old HP15.out b16
  have HS16 : Hid (TAt w16 S11 t0 la 1 lc d2 0 0) := TAt.below HS15.out b16
  clear HU15 HD15 HG15 HE15 HV15 HT15 HK15 HP15 HS15
  have etc : tC t0 (some ⟨G, 0, none⟩) 1 1 none 0 0 = #[.int .i64 1, .int .i64 2, .int .i64 0, .int .i64 0, .int .i64 0, .int .i64 0, .int .i64 0, .slice (some ⟨G, 0, none⟩) 1 1, .slice none 0 0] := rfl
  rw [etc]
  clear QC hvq hR16 b16 hcl etc
  have hl16 : Below w16.heap.size w16 (w16.alloc (.cells (tC t0 (some ⟨G, 0, none⟩) 1 1 none 0 0) 45)) := (Below.refl _ _).alloc (Nat.le_refl _) _
  have tn := tAt_new w16 t0 (some ⟨G, 0, none⟩) 1 1 none 0 0
  obtain ⟨w17, hw17⟩ : ∃ w17, w17 = w16.alloc (.cells #[.int .i64 1, .int .i64 2, .int .i64 0, .int .i64 0, .int .i64 0, .int .i64 0, .int .i64 0, .slice (some ⟨G, 0, none⟩) 1 1, .slice none 0 0] 45) := ⟨_, rfl⟩
  have hw17' : w17 = w16.alloc (.cells (tC t0 (some ⟨G, 0, none⟩) 1 1 none 0 0) 45) := hw17
  rw [← hw17'] at hl16 tn
  have HW17 : Hid (w16.alloc (.cells #[.int .i64 1, .int .i64 2, .int .i64 0, .int .i64 0, .int .i64 0, .int .i64 0, .int .i64 0, .slice (some ⟨G, 0, none⟩) 1 1, .slice none 0 0] 45) = w17) := hw17.symm
  obtain ⟨C16, hC16⟩ : ∃ C16, C16 = w16.heap.size := ⟨_, rfl⟩
  rw [← hC16] at tn
  have HC17 : Hid (TAt w17 C16 t0 (some ⟨G, 0, none⟩) 1 1 none 0 0) := tn
  have HCs : Hid (w16.heap.size = C16) := hC16.symm
  have bel17 := bthen bel16 hl16
  have HU17 : Hid (UAt w17 (D + 1) u0 (some ⟨D, 0, none⟩) 2 2) := UAt.below HU16.out hl16
  have HD17 : Hid (DOk w17 u0.d (some ⟨D, 0, none⟩) 2 2) := HD16.out.old hl16
  have HG17 : Hid (OwnB w17 w4.heap.size (.slice (some ⟨g5, 0, none⟩) 10 10) 10 b0) := own_below HG16.out hl16
  have HE17 : Hid (DOk w17 u0.d dv 2 2) := HE16.out.old hl16
  have HV17 : Hid (UAt w17 V6 u0 dv 2 2) := UAt.below HV16.out hl16
  have HT17 : Hid (TAt w17 (Q + 2) t0 (some ⟨Q + 1, 0, none⟩) 1 1 none 0 0) := TAt.below HT16.out hl16
  have HK17 : Hid (TOk w17 t0 (some ⟨Q + 1, 0, none⟩) 1 [⟨3, some ⟨Q, 0, none⟩, 1, [7]⟩] none 0 0) := HK16.out.old hl16
  have HP17 : Hid (OptsAt w17 la ps) := OptsAt.old HP16.out hl16
  have HS17 : Hid (TAt w17 S11 t0 la 1 lc d2 0 0) := TAt.below HS16.out hl16
  have HR17 : Hid (OptsAt w17 (some ⟨G, 0, none⟩) qs) := OptsAt.old HR16.out hl16
  clear HU16 HD16 HG16 HE16 HV16 HT16 HK16 HP16 HS16 HR16
  clear hl16 tn hw17 hw17' hC16
  go_upto_region 11 with fail
  rw [HCs.out, HW17.out]
  clear HCs HW17
  go_wp2_with (first | (refine wpList_make_z rfl _ _ rfl 65528 (by omega) 65528 (by omega) rfl rfl ?_))
  intro w18 hb18
  have bel18 := bthen bel17 hb18
  have HU18 : Hid (UAt w18 (D + 1) u0 (some ⟨D, 0, none⟩) 2 2) := UAt.below HU17.out hb18
  have HD18 : Hid (DOk w18 u0.d (some ⟨D, 0, none⟩) 2 2) := HD17.out.old hb18
  have HG18 : Hid (OwnB w18 w4.heap.size (.slice (some ⟨g5, 0, none⟩) 10 10) 10 b0) := own_below HG17.out hb18
  have HE18 : Hid (DOk w18 u0.d dv 2 2) := HE17.out.old hb18
  have HV18 : Hid (UAt w18 V6 u0 dv 2 2) := UAt.below HV17.out hb18
  have HT18 : Hid (TAt w18 (Q + 2) t0 (some ⟨Q + 1, 0, none⟩) 1 1 none 0 0) := TAt.below HT17.out hb18
  have HK18 : Hid (TOk w18 t0 (some ⟨Q + 1, 0, none⟩) 1 [⟨3, some ⟨Q, 0, none⟩, 1, [7]⟩] none 0 0) := HK17.out.old hb18
  have HP18 : Hid (OptsAt w18 la ps) := OptsAt.old HP17.out hb18
  have HS18 : Hid (TAt w18 S11 t0 la 1 lc d2 0 0) := TAt.below HS17.out hb18
  have HR18 : Hid (OptsAt w18 (some ⟨G, 0, none⟩) qs) := OptsAt.old HR17.out hb18
  have HC18 : Hid (TAt w18 C16 t0 (some ⟨G, 0, none⟩) 1 1 none 0 0) := TAt.below HC17.out hb18
  clear HU17 HD17 HG17 HE17 HV17 HT17 HK17 HP17 HS17 HR17 HC17
  obtain ⟨dd, hdd⟩ : ∃ dd : List Nat, dd.length = 65528 := ⟨List.replicate 65528 0, List.length_replicate⟩
  have QK : Hid _ := chkU_any 4 ⟨-1, 0, false, dd⟩ (some ⟨w17.heap.size, 0, none⟩) 65528 65528 w18 hdd (by omega)
  rw [show L4.uChk 4 ⟨-1, 0, false, dd⟩ = 98 from rfl] at QK
  clear hb18 hdd
  go_wp2_with fail
  refine Calls.mono QK.out ?_
  rintro e w19 ⟨rfl, hb19⟩
  have bel19 := bthen bel18 hb19
  have HU19 : Hid (UAt w19 (D + 1) u0 (some ⟨D, 0, none⟩) 2 2) := UAt.below HU18.out hb19
  have HD19 : Hid (DOk w19 u0.d (some ⟨D, 0, none⟩) 2 2) := HD18.out.old hb19
  have HG19 : Hid (OwnB w19 w4.heap.size (.slice (some ⟨g5, 0, none⟩) 10 10) 10 b0) := own_below HG18.out hb19
  have HE19 : Hid (DOk w19 u0.d dv 2 2) := HE18.out.old hb19
  have HV19 : Hid (UAt w19 V6 u0 dv 2 2) := UAt.below HV18.out hb19
  have HT19 : Hid (TAt w19 (Q + 2) t0 (some ⟨Q + 1, 0, none⟩) 1 1 none 0 0) := TAt.below HT18.out hb19
  have HK19 : Hid (TOk w19 t0 (some ⟨Q + 1, 0, none⟩) 1 [⟨3, some ⟨Q, 0, none⟩, 1, [7]⟩] none 0 0) := HK18.out.old hb19
  have HP19 : Hid (OptsAt w19 la ps) := OptsAt.old HP18.out hb19
  have HS19 : Hid (TAt w19 S11 t0 la 1 lc d2 0 0) := TAt.below HS18.out hb19
  have HR19 : Hid (OptsAt w19 (some ⟨G, 0, none⟩) qs) := OptsAt.old HR18.out hb19
  have HC19 : Hid (TAt w19 C16 t0 (some ⟨G, 0, none⟩) 1 1 none 0 0) := TAt.below HC18.out hb19
  clear HU18 HD18 HG18 HE18 HV18 HT18 HK18 HP18 HS18 HR18 HC18
  clear QK hb19
  go_wp2_with fail
  refine Calls.mono (num9_any 98 _) ?_
  rintro e wn ⟨rfl, rfl⟩
  go_wp2_with fail
  refine Calls.mono (num9_any 0 _) ?_
  rintro e wn ⟨rfl, rfl⟩
  go_wp2_with fail
  refine Calls.mono (num9_any 0 _) ?_
  rintro e wn ⟨rfl, rfl⟩
  go_wp2_with fail
  refine Calls.mono (num9_any 0 _) ?_
  rintro e wn ⟨rfl, rfl⟩
  go_wp2_with fail
  refine Calls.mono (num9_any 0 _) ?_
  rintro e wn ⟨rfl, rfl⟩
  go_wp2_with fail
  refine Calls.mono (num9_any 94 _) ?_
  rintro e wn ⟨rfl, rfl⟩
  have hl19 : Below w19.heap.size w19 (w19.alloc (.cells #[.int .u8 0, .int .u8 1, .int .u8 0, .int .u8 2, .int .u8 0, .int .u8 10, .int .u8 131, .int .u8 107, .int .u8 104, .int .u8 105] 5)) := (Below.refl _ _).alloc (Nat.le_refl _) _
  have sg19 : Seg .u8 (w19.alloc (.cells #[.int .u8 0, .int .u8 1, .int .u8 0, .int .u8 2, .int .u8 0, .int .u8 10, .int .u8 131, .int .u8 107, .int .u8 104, .int .u8 105] 5)) (some ⟨w19.heap.size, 0, none⟩) (toI b0) := seg_mark w19 b0 5 (0, 0)
  have QA : Hid _ := alike_any (some ⟨g5, 0, none⟩) (some ⟨w19.heap.size, 0, none⟩) 10 10 10 10 b0 b0 (w19.alloc (.cells #[.int .u8 0, .int .u8 1, .int .u8 0, .int .u8 2, .int .u8 0, .int .u8 10, .int .u8 131, .int .u8 107, .int .u8 104, .int .u8 105] 5)) rfl rfl ((owns_seg_at HG19.out).1.old hl19) sg19 (by decide) (by decide)
  rw [decide_eq_true (rfl : b0 = b0)] at QA
  obtain ⟨w20, hw20⟩ : ∃ w20, w20 = w19.alloc (.cells #[.int .u8 0, .int .u8 1, .int .u8 0, .int .u8 2, .int .u8 0, .int .u8 10, .int .u8 131, .int .u8 107, .int .u8 104, .int .u8 105] 5) := ⟨_, rfl⟩
  rw [← hw20] at hl19 QA
  have bel20 := bthen bel19 hl19
  have HU20 : Hid (UAt w20 (D + 1) u0 (some ⟨D, 0, none⟩) 2 2) := UAt.below HU19.out hl19
  have HD20 : Hid (DOk w20 u0.d (some ⟨D, 0, none⟩) 2 2) := HD19.out.old hl19
  have HG20 : Hid (OwnB w20 w4.heap.size (.slice (some ⟨g5, 0, none⟩) 10 10) 10 b0) := own_below HG19.out hl19
  have HE20 : Hid (DOk w20 u0.d dv 2 2) := HE19.out.old hl19
  have HV20 : Hid (UAt w20 V6 u0 dv 2 2) := UAt.below HV19.out hl19
  have HT20 : Hid (TAt w20 (Q + 2) t0 (some ⟨Q + 1, 0, none⟩) 1 1 none 0 0) := TAt.below HT19.out hl19
  have HK20 : Hid (TOk w20 t0 (some ⟨Q + 1, 0, none⟩) 1 [⟨3, some ⟨Q, 0, none⟩, 1, [7]⟩] none 0 0) := HK19.out.old hl19
  have HP20 : Hid (OptsAt w20 la ps) := OptsAt.old HP19.out hl19
  have HS20 : Hid (TAt w20 S11 t0 la 1 lc d2 0 0) := TAt.below HS19.out hl19
  have HR20 : Hid (OptsAt w20 (some ⟨G, 0, none⟩) qs) := OptsAt.old HR19.out hl19
  have HC20 : Hid (TAt w20 C16 t0 (some ⟨G, 0, none⟩) 1 1 none 0 0) := TAt.below HC19.out hl19
  clear HU19 HD19 HG19 HE19 HV19 HT19 HK19 HP19 HS19 HR19 HC19
  have HW20 : Hid (w19.alloc (.cells #[.int .u8 0, .int .u8 1, .int .u8 0, .int .u8 2, .int .u8 0, .int .u8 10, .int .u8 131, .int .u8 107, .int .u8 104, .int .u8 105] 5) = w20) := hw20.symm
  clear hl19 sg19 hw20
  go_wp2_with fail
  rw [HW20.out]
  clear HW20
  refine Calls.mono QA.out ?_
  rintro e wa ⟨rfl, rfl⟩
  have QU : Hid _ := sameU_true u0 (some ⟨D, 0, none⟩) dv 2 2 2 w20 HD20.out HE20.out
  clear QA
  go_wp2_with (first | (refine wpList_load_u9 (.tmp 3) rfl (D + 1) u0 (some ⟨D, 0, none⟩) 2 2 rfl HU20.out rfl ?_) | (refine wpList_load_u9 (.tmp 6) rfl V6 u0 dv 2 2 rfl HV20.out rfl ?_))
  refine Calls.mono QU.out ?_
  rintro e w21 ⟨rfl, hb21⟩
  have bel21 := bthen bel20 hb21
  have HT21 : Hid (TAt w21 (Q + 2) t0 (some ⟨Q + 1, 0, none⟩) 1 1 none 0 0) := TAt.below HT20.out hb21
  have HK21 : Hid (TOk w21 t0 (some ⟨Q + 1, 0, none⟩) 1 [⟨3, some ⟨Q, 0, none⟩, 1, [7]⟩] none 0 0) := HK20.out.old hb21
  have HP21 : Hid (OptsAt w21 la ps) := OptsAt.old HP20.out hb21
  have HS21 : Hid (TAt w21 S11 t0 la 1 lc d2 0 0) := TAt.below HS20.out hb21
  have HR21 : Hid (OptsAt w21 (some ⟨G, 0, none⟩) qs) := OptsAt.old HR20.out hb21
  have HC21 : Hid (TAt w21 C16 t0 (some ⟨G, 0, none⟩) 1 1 none 0 0) := TAt.below HC20.out hb21
  clear HT20 HK20 HP20 HS20 HR20 HC20
  have QS : Hid _ := sameT_true t0 la (some ⟨Q + 1, 0, none⟩) 1 lc 1 ps [⟨3, some ⟨Q, 0, none⟩, 1, [7]⟩] d2 none 0 0 0 w21 HP21.out HK21.out.oat HPV.out.2 HPV.out.1 (by decide) ⟨rfl, .inl rfl, (by intro x hx; cases hx), by decide, by decide, by decide⟩ ⟨rfl, .inl rfl, (by intro x hx; cases hx), by decide, by decide, by decide⟩
  clear QU hb21 HU20 HD20 HG20 HE20 HV20
  go_wp2_with (first | (refine wpList_load_t9 (.tmp 11) rfl S11 t0 la 1 lc d2 0 0 rfl HS21.out rfl ?_) | (refine wpList_load_t9 (.tmp 8) rfl (Q + 2) t0 (some ⟨Q + 1, 0, none⟩) 1 1 none 0 0 rfl HT21.out rfl ?_))
  refine Calls.mono QS.out ?_
  rintro e w22 ⟨rfl, hb22⟩
  have bel22 := bthen bel21 hb22
  have HT22 : Hid (TAt w22 (Q + 2) t0 (some ⟨Q + 1, 0, none⟩) 1 1 none 0 0) := TAt.below HT21.out hb22
  have HK22 : Hid (TOk w22 t0 (some ⟨Q + 1, 0, none⟩) 1 [⟨3, some ⟨Q, 0, none⟩, 1, [7]⟩] none 0 0) := HK21.out.old hb22
  have HR22 : Hid (OptsAt w22 (some ⟨G, 0, none⟩) qs) := OptsAt.old HR21.out hb22
  have HC22 : Hid (TAt w22 C16 t0 (some ⟨G, 0, none⟩) 1 1 none 0 0) := TAt.below HC21.out hb22
  clear HT21 HK21 HR21 HC21
  have QZ : Hid _ := sameT_true t0 (some ⟨G, 0, none⟩) (some ⟨Q + 1, 0, none⟩) 1 1 1 qs [⟨3, some ⟨Q, 0, none⟩, 1, [7]⟩] none none 0 0 0 w22 HR22.out HK22.out.oat HQV.out.2 HQV.out.1 (by decide) ⟨rfl, .inl rfl, (by intro x hx; cases hx), by decide, by decide, by decide⟩ ⟨rfl, .inl rfl, (by intro x hx; cases hx), by decide, by decide, by decide⟩
  clear QS hb22 HP21 HS21
  go_wp2_with (first | (refine wpList_load_t9 (.tmp 17) rfl C16 t0 (some ⟨G, 0, none⟩) 1 1 none 0 0 rfl HC22.out rfl ?_) | (refine wpList_load_t9 (.tmp 8) rfl (Q + 2) t0 (some ⟨Q + 1, 0, none⟩) 1 1 none 0 0 rfl HT22.out rfl ?_))
  refine Calls.mono QZ.out ?_
  rintro e w23 ⟨rfl, hb23⟩
  have HFIN : Hid (Below w.heap.size w w23) := bthen bel22 hb23
  clear QZ hb23
  go_wp2
  go_ret
  exact ⟨rfl, HFIN.out⟩
end Go.Proofs.YtfoeepbndfnifaaDoor
