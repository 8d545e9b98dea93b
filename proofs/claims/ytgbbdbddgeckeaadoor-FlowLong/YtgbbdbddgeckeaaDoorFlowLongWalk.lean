/-
  FlowLong: the walk.
-/
import Derived.Test.YtgbbdbddgeckeaaDoorFlBg
namespace Go.Proofs.YtgbbdbddgeckeaaDoor
open Go.RowKit Go.Maps

def xe : TU := ⟨1, 4, s0, 4, d0, 5000, 0⟩
def cfL (A B : Int) : CF := ⟨2, 4, o0, 1000, 1001, 2, 9, 3, A, B⟩
def e1L (A : Int) (P : Nat) : FV := ⟨⟨x0, 1000, 7, A⟩, P⟩
def e2L (B : Int) (P : Nat) : FV := ⟨⟨xe, 1000, 7, B⟩, P⟩
theorem xe_wf : xe.Wf := wf_q4 1 10 0 0 1 198 51 100 7 5000 0 (by decide) (by decide) (by decide) (by decide) (by decide)
theorem xe_ck : ckE xe = 0 := by decide +kernel
theorem cfL_b {A B : Int} (hA : 1 ≤ A ∧ A ≤ 1048576) (hB : 1 ≤ B ∧ B ≤ 1048576) : cfB (cfL A B) = true := by
  unfold cfB
  rw [Bool.and_eq_true]
  refine ⟨?_, ?_⟩
  · unfold agB
    rw [show (cfL A B).sy = 2 from rfl, show (cfL A B).tc = 9 from rfl, show (cfL A B).fi = 3 from rfl, show (cfL A B).ud = A from rfl, show (cfL A B).ic = B from rfl, inR_iff.2 hA, inR_iff.2 hB]
    rfl
  · show (inR 2 1 4096 && (4 : Int) == 4 && (clsA 4 o0 == 7 || clsA 4 o0 == 4) && decide ((1 : Int) ≤ 1000) && decide ((1000 : Int) ≤ 1001) && decide ((1001 : Int) ≤ 65535)) = true
    decide +kernel
theorem bgL (A B : Int) : bgE (cfL A B) [] x0 = 0 := bg0
theorem fpL (A B : Int) : fpO (cfL A B) [] x0 = some 1000 := fp0
theorem fnL (A : Int) (P : Nat) : fF [e1L A P] xe = none := by
  unfold fF
  rw [List.find?_cons]
  rw [show eqP (e1L A P).n.x xe = false from (by decide +kernel : eqP x0 xe = false)]
  rfl
theorem frL (A : Int) (P : Nat) : frB [e1L A P] 1 1000 = true := rfl
theorem fp2 (A B C : Int) (P : Nat) : fpO (cfL A B) [e1L C P] xe = some 1000 := by
  unfold fpO
  rw [show (xe.sV == 6 || (inR xe.sp (cfL A B).lo (cfL A B).hi && frB [e1L C P] xe.pr xe.sp)) = false from rfl]
  show frF [e1L C P] 1 1000 2 = some 1000
  unfold frF
  rw [frL]
  rfl
theorem bg2 (A B C : Int) (P : Nat) : bgE (cfL A B) [e1L C P] xe = 0 := by
  unfold bgE
  rw [show (ecB xe && (!(xe.dp == 0) || xe.sp == 0)) = false from by decide +kernel, show ((([e1L C P] : List FV).length : Int) == (cfL A B).mx) = false from rfl, fp2]
  rfl
theorem tup_tb {w : World} {t M N O : Nat} {c : CF} {E : List FV} {x : TU} (h : TA w t M N c E) (hx : TupAt w O x) : ¬ TB t M N E O := by
  rintro (h1 | h1 | h1 | ⟨a, ha, h1⟩)
  · have h2 := h.cb; have h3 := hx; unfold TupAt at h3; unfold TblAt at h2; rw [h1, h2] at h3; simp only [Option.some.injEq, Obj.cells.injEq] at h3; exact absurd h3.2.1 (by decide)
  · obtain ⟨D, hD⟩ := h.ma; obtain ⟨es, ck, hb⟩ := hD.blk; exact tup_ne hx hb h1
  · obtain ⟨D, hD⟩ := h.mb; obtain ⟨es, ck, hb⟩ := hD.blk; exact tup_ne hx hb h1
  · have h2 := h.en a ha; have h3 := hx; unfold TupAt at h3; unfold FloAt at h2; rw [h1, h2] at h3; simp only [Option.some.injEq, Obj.cells.injEq] at h3; exact absurd h3.2.1 (by decide)
/-- what is left behind k ticks -/
def EE (P Q : Nat) (a b k : Nat) : List FV := (if k < a then [e1L ((a - k : Nat) : Int) P] else []) ++ (if k < b then [e2L ((b - k : Nat) : Int) Q] else [])
theorem one_tick (f : Int → FV) (hf : ∀ z, (f z).n.le = z) (hd : ∀ z, (f z).dec = f (z - 1)) (a k : Nat) : (if k < a then [f ((a - k : Nat) : Int)] else []).filterMap tk1 = (if k + 1 < a then [f ((a - (k + 1) : Nat) : Int)] else []) ∧ endN (if k < a then [f ((a - k : Nat) : Int)] else []) = if k + 1 = a then 1 else 0 := by
  by_cases h1 : k < a
  · rw [if_pos h1]
    by_cases h2 : k + 1 < a
    · rw [if_pos h2, if_neg (by omega)]
      have e : ((f ((a - k : Nat) : Int)).n.le - 1 == 0) = false := by rw [hf]; simp; omega
      constructor
      · rw [List.filterMap_cons]
        unfold tk1
        rw [e]
        simp only [Bool.false_eq_true, if_false, List.filterMap_nil]
        rw [hd, show ((a - k : Nat) : Int) - 1 = ((a - (k + 1) : Nat) : Int) by omega]
      · unfold endN
        simp [e]
    · rw [if_neg h2, if_pos (by omega)]
      have e : ((f ((a - k : Nat) : Int)).n.le - 1 == 0) = true := by rw [hf]; simp; omega
      constructor
      · rw [List.filterMap_cons]
        unfold tk1
        rw [e]
        rfl
      · unfold endN
        simp [e]
  · rw [if_neg h1, if_neg (by omega), if_neg (by omega)]
    exact ⟨rfl, rfl⟩
theorem EE_tick (P Q a b k : Nat) : (EE P Q a b k).filterMap tk1 = EE P Q a b (k + 1) ∧ endN (EE P Q a b k) = (if k + 1 = a then 1 else 0) + (if k + 1 = b then 1 else 0) := by
  have h1 := one_tick (fun z => e1L z P) (fun _ => rfl) (fun _ => rfl) a k
  have h2 := one_tick (fun z => e2L z Q) (fun _ => rfl) (fun _ => rfl) b k
  unfold EE
  rw [List.filterMap_append, h1.1, h2.1]
  refine ⟨rfl, ?_⟩
  have : ∀ L K : List FV, endN (L ++ K) = endN L + endN K := fun L K => by unfold endN; rw [List.filter_append, List.length_append]
  rw [this, h1.2, h2.2]
theorem EE_nil {P Q a b k : Nat} (h1 : a ≤ k) (h2 : b ≤ k) : EE P Q a b k = [] := by
  unfold EE
  rw [if_neg (by omega), if_neg (by omega)]
  rfl
theorem perm_nil {S : List FN} (h : S.Perm []) : S = [] := List.Perm.eq_nil h
set_option maxHeartbeats 1600000 in
set_option maxRecDepth 100000 in
theorem flowLong.walk (w : World) (g : Gl w) (a b : Int) : Calls Tryd.prog 4 #[.int .i64 a, .int .i64 b] w fun r w' => r = .returned (.bool true) ∧ Below w.heap.size w w' := by
  have HG : Hid (Gl w) := g
  clear g
  obtain ⟨A, hA⟩ : ∃ A, min (max a 1) 1048576 = A := ⟨_, rfl⟩
  obtain ⟨B, hB⟩ : ∃ B, min (max b 1) 1048576 = B := ⟨_, rfl⟩
  obtain ⟨an, han⟩ : ∃ an : Nat, A = (an : Int) := ⟨A.toNat, by omega⟩
  obtain ⟨bn, hbn⟩ : ∃ bn : Nat, B = (bn : Int) := ⟨B.toNat, by omega⟩
  have HAB : Hid ((1 ≤ A ∧ A ≤ 1048576) ∧ (1 ≤ B ∧ B ≤ 1048576) ∧ A = (an : Int) ∧ B = (bn : Int)) := ⟨by omega, by omega, han, hbn⟩
  have HA : Hid (min (max a 1) 1048576 = A ∧ min (max b 1) 1048576 = B) := ⟨hA, hB⟩
  clear hA hB han hbn
  have Q1 : Hid _ := config0_any w
  go_enter Tryd.func4, Tryd.ntmps4
  go_upto_region 2 with fail
  rw [HA.out.1, HA.out.2]
  go_wp2_with fail
  refine Calls.mono Q1.out ?_
  rintro e1 w1 ⟨rfl, b1⟩
  have H1 : Hid (Below w.heap.size w w1) := b1
  clear Q1 b1
  obtain ⟨Y5, hY⟩ : ∃ Y, Y = w1.alloc (.cells (cfC cz) 26) := ⟨_, rfl⟩
  have bY : Below w1.heap.size w1 Y5 := by rw [hY]; exact (Below.refl _ _).alloc (Nat.le_refl _) _
  obtain ⟨O5, hO⟩ : ∃ O, O = w1.heap.size := ⟨_, rfl⟩
  have HNY : Hid (CfgAt Y5 O5 cz) := by show CfgAt Y5 O5 cz; rw [hY, hO]; exact cfg_new w1 cz
  have HLY : Hid (Below w1.heap.size w1 Y5) := bY
  have HEY : Hid (w1.alloc (.cells (cfC cz) 26) = Y5) := hY.symm
  have HOY : Hid (w1.heap.size = O5) := hO.symm
  clear hY bY hO
  go_wp2_with (first | (refine wpList_alloc_cfg rfl rfl ?_; rw [HEY.out, HOY.out]) | (refine wpList_store_cfg (.tmp 5) (.tmp 19) rfl rfl O5 cz cf0 rfl rfl HNY.out rfl ?_))
  intro w2 h2 k2
  have b2 : Below w1.heap.size w1 w2 := HLY.out.trans (k2.below (fun q hq => by have hq' : q = O5 := hq; have := HOY.out; omega) HLY.out.size)
  have H2 : Hid (Below w.heap.size w w2 ∧ CfgAt w2 O5 cf0 ∧ w.heap.size ≤ O5) := ⟨bthen H1.out b2, h2, by have h1 := H1.out.size; have h2 := HOY.out; omega⟩
  have c23 := h2.c23
  have c24 := h2.c24
  have f23 := h2.fz 23
  have f24 := h2.fz 24
  clear h2 k2 b2 HNY HLY HEY HOY H1
  go_upto_region 4 with fail
  obtain ⟨w3, hw3⟩ : ∃ w3, w3 = (w2.setCell ⟨O5, 23, none⟩ (.int .i64 A)).setCell ⟨O5, 24, none⟩ (.int .i64 B) := ⟨_, rfl⟩
  rw [← hw3]
  have H3 : Hid (Below w.heap.size w w3 ∧ CfgAt w3 O5 (cfL A B)) := by
    have k3 := ((Ch.refl (fun q => q = O5) w2).set ⟨O5, 23, none⟩ (.int .i64 A) rfl).set ⟨O5, 24, none⟩ (.int .i64 B) rfl
    rw [← hw3] at k3
    refine ⟨H2.out.1.trans (k3.below (fun q hq => by have hq' : q = O5 := hq; have := H2.out.2.2; omega) H2.out.1.size), ?_⟩
    have hc := H2.out.2.1
    unfold CfgAt at hc ⊢
    have e1 := heap_setCell_same w2 O5 23 _ _ (.int .i64 A) hc
    have e2 := heap_setCell_same (w2.setCell ⟨O5, 23, none⟩ (.int .i64 A)) O5 24 _ _ (.int .i64 B) e1
    rw [hw3, e2]
    rfl
  clear hw3 c23 c24 f23 f24 H2
  have Q4 : Hid _ := ft_new (cfL A B) w3 w cf0_o (cfL_b HAB.out.1 HAB.out.2.1) HG.out H3.out.1
  go_wp2_with (first | (refine wpList_load_cfg (.tmp 5) rfl O5 (cfL A B) rfl H3.out.2 rfl ?_))
  refine Calls.mono Q4.out ?_
  rintro e4 w4 ⟨t, M, N, rfl, hF4, _⟩
  have H4 : Hid (FT w t M N (cfL A B) [] w4) := hF4
  clear hF4 Q4 H3
  have Q5 : Hid _ := begun_any w4 (H4.out.gl HG.out)
  go_wp2_with fail
  refine Calls.mono Q5.out ?_
  rintro e5 w5 ⟨rfl, b5⟩
  have H5 : Hid (FT w t M N (cfL A B) [] w5) := H4.out.below b5
  clear b5 Q5 H4
  have Q6 : Hid _ := ask0_any w5
  go_wp2_with fail
  refine Calls.mono Q6.out ?_
  rintro e6 w6 ⟨rfl, b6⟩
  have H6 : Hid (FT w t M N (cfL A B) [] w6) := H5.out.below b6
  clear b6 Q6 H5
  obtain ⟨Y8, hY⟩ : ∃ Y, Y = w6.alloc (.cells (tuC xz) 34) := ⟨_, rfl⟩
  have bY : Below w6.heap.size w6 Y8 := by rw [hY]; exact (Below.refl _ _).alloc (Nat.le_refl _) _
  obtain ⟨O8, hO⟩ : ∃ O, O = w6.heap.size := ⟨_, rfl⟩
  have HNY : Hid (TupAt Y8 O8 xz) := by show TupAt Y8 O8 xz; rw [hY, hO]; exact tup_new w6 xz
  have HLY : Hid (Below w6.heap.size w6 Y8) := bY
  have HEY : Hid (w6.alloc (.cells (tuC xz) 34) = Y8) := hY.symm
  have HOY : Hid (w6.heap.size = O8) := hO.symm
  clear hY bY hO
  go_wp2_with (first | (refine wpList_alloc_tup rfl rfl ?_; rw [HEY.out, HOY.out]) | (refine wpList_store_tup (.tmp 8) (.tmp 39) rfl rfl O8 xz x0 rfl rfl HNY.out rfl ?_))
  intro w7 h7 k7
  have b7 : Below w6.heap.size w6 w7 := HLY.out.trans (k7.below (fun q hq => by have hq' : q = O8 := hq; have := HOY.out; omega) HLY.out.size)
  have H7 : Hid (FT w t M N (cfL A B) [] w7 ∧ TupAt w7 O8 x0 ∧ w6.heap.size = O8 ∧ FT w t M N (cfL A B) [] w6) := ⟨H6.out.below b7, h7, HOY.out, H6.out⟩
  have c0 := h7.c0
  have c36 := h7.c36
  have f0 := h7.fz 0
  have f36 := h7.fz 36
  clear h7 k7 b7 HNY HLY HEY HOY H6
  go_upto_region 9 with fail
  obtain ⟨w8, hw8⟩ : ∃ w8, w8 = (w7.setCell ⟨O8, 0, none⟩ (.int .i64 1)).setCell ⟨O8, 36, none⟩ (.int .i64 0) := ⟨_, rfl⟩
  rw [← hw8]
  have H8 : Hid (FT w t M N (cfL A B) [] w8 ∧ TupAt w8 O8 xe) := by
    have k8 := ((Ch.refl (fun q => q = O8) w7).set ⟨O8, 0, none⟩ (.int .i64 1) rfl).set ⟨O8, 36, none⟩ (.int .i64 0) rfl
    rw [← hw8] at k8
    have hlt : ∀ q, TB t M N [] q → q ≠ O8 := fun q hq e => by have h1 := H7.out.2.2.2.ta.tlt q hq; have h2 := H7.out.2.2.1; omega
    have hw : w.heap.size ≤ O8 := by have h1 := H7.out.2.2.2.bel.size; have h2 := H7.out.2.2.1; omega
    refine ⟨{ H7.out.1 with ta := H7.out.1.ta.ch k8 (fun q hq => hlt q hq), bel := H7.out.1.bel.trans (k8.below (fun q hq => by have hq' : q = O8 := hq; omega) H7.out.1.bel.size) }, ?_⟩
    rw [hw8]
    exact TupAt.set (x := { x0 with pr := 1 }) (TupAt.set H7.out.2.1 0 (.int .i64 1) (by simp only [tuC, List.setIfInBounds_toArray, List.set_cons_zero])) 36 (.int .i64 0) (set_dp _ _)
  clear hw8 c0 c36 f0 f36 H7
  have Q9 : Hid _ := ask0_any w8
  go_wp2_with fail
  refine Calls.mono Q9.out ?_
  rintro e9 w9 ⟨rfl, b9⟩
  have H9 : Hid (FT w t M N (cfL A B) [] w9 ∧ TupAt w9 O8 xe) := ⟨H8.out.1.below b9, H8.out.2.below b9⟩
  clear b9 Q9 H8
  have Q10 : Hid _ := H9.out.1.out HG.out x0 x0_wf 0
  go_wp2_with fail
  refine Calls.mono Q10.out ?_
  rintro e10 w10 ⟨er, y, E', rfl, hR, hF10, k10⟩
  obtain ⟨her, hy, P, hP, hE⟩ := out_new hR x0_ck rfl (v := 7) (by decide +kernel) (by decide) (bgL A B) (fpL A B)
  subst her
  have H10 : Hid (FT w t M N (cfL A B) [e1L A P] w10 ∧ TupAt w10 O8 xe) := by
    refine ⟨?_, H9.out.2.ch k10 (fun q => ?_)⟩
    · rw [hE] at hF10
      exact hF10
    · exact tup_tb H9.out.1.ta H9.out.2 q
  clear hR hF10 hP hE hy k10 Q10 H9
  have Q11 : Hid _ := H10.out.1.out HG.out xe xe_wf 0
  go_wp2_with (first | (refine wpList_load_tup (.tmp 8) rfl O8 xe rfl H10.out.2 rfl ?_))
  refine Calls.mono Q11.out ?_
  rintro e11 w11 ⟨er, y, E', rfl, hR, hF11, k11⟩
  obtain ⟨her, hy, Q, hQ, hE⟩ := out_new hR xe_ck (fnL A P) (v := 7) (by decide +kernel) (by decide) (bg2 A B A P) (fp2 A B A P)
  subst her
  have H11 : Hid (FT w t M N (cfL A B) (EE P Q an bn 0) w11 ∧ (EE P Q an bn 0).length = 2) := by
    have e0 : EE P Q an bn 0 = [e1L A P] ++ [e2L B Q] := by
      have h1 := HAB.out
      unfold EE
      rw [if_pos (by omega), if_pos (by omega), Nat.sub_zero, Nat.sub_zero, ← h1.2.2.1, ← h1.2.2.2]
    rw [e0]
    refine ⟨?_, rfl⟩
    rw [hE] at hF11
    exact hF11
  obtain ⟨y2, hy2⟩ : ∃ y2, y2 = y := ⟨_, rfl⟩
  rw [← hy2]
  clear hR hF11 hQ hE hy k11 Q11 H10 hy2
  obtain ⟨Y9, hY⟩ : ∃ Y, Y = w11.alloc (.cells (tuC xz) 34) := ⟨_, rfl⟩
  have bY : Below w11.heap.size w11 Y9 := by rw [hY]; exact (Below.refl _ _).alloc (Nat.le_refl _) _
  obtain ⟨O9, hO⟩ : ∃ O, O = w11.heap.size := ⟨_, rfl⟩
  have HNY : Hid (TupAt Y9 O9 xz) := by show TupAt Y9 O9 xz; rw [hY, hO]; exact tup_new w11 xz
  have HLY : Hid (Below w11.heap.size w11 Y9) := bY
  have HEY : Hid (w11.alloc (.cells (tuC xz) 34) = Y9) := hY.symm
  have HOY : Hid (w11.heap.size = O9) := hO.symm
  clear hY bY hO
  go_wp2_with (first | (refine wpList_alloc_tup rfl rfl ?_; rw [HEY.out, HOY.out]) | (refine wpList_store_tup (.tmp 9) (.tmp 52) rfl rfl O9 xz y2 rfl rfl HNY.out rfl ?_))
  intro w12 h12 k12
  have H12 : Hid (FT w t M N (cfL A B) (EE P Q an bn 0) w12 ∧ (EE P Q an bn 0).length = 2) := ⟨H11.out.1.below (HLY.out.trans (k12.below (fun q hq => by have hq' : q = O9 := hq; have := HOY.out; omega) HLY.out.size)), H11.out.2⟩
  clear h12 k12 HNY HLY HEY HOY H11
  have Q12 : Hid _ := H12.out.1.lens
  rw [H12.out.2] at Q12
  go_wp2_with fail
  refine Calls.mono Q12.out ?_
  rintro e12 w13 ⟨rfl, rfl⟩
  clear Q12
  go_wp2_with fail
  go_loopw [11, 12] (fun ix _ wr => ∃ (k : Nat) (p : Int), ix = .int .i64 p ∧ Hid (p = (k : Int) + 1 ∧ FT w t M N (cfL A B) (EE P Q an bn k) wr)) (fun ix _ _ => (max A B + 1 - intOf ix).toNat)
  case atStart => exact ⟨0, 1, rfl, ⟨rfl, H12.out.1⟩⟩
  case round =>
    obtain ⟨k, p, rfl, HR⟩ := hrel
    have HK : Hid (p = (k : Int) + 1) := HR.out.1
    clear H12
    obtain ⟨bl, hbl⟩ : ∃ b, decide (p ≤ max A B) = b := ⟨_, rfl⟩
    have HBL : Hid (decide (p ≤ max A B) = bl) := hbl
    cases bl with
    | false =>
      have HNI : Hid (EE P Q an bn k = []) := by
        have h1 := HK.out
        have h2 := HAB.out
        have h3 : ¬ p ≤ max A B := by simpa using HBL.out
        exact EE_nil (by omega) (by omega)
      have H21 : Hid (FT w t M N (cfL A B) [] wr) := by show FT w t M N (cfL A B) [] wr; rw [← HNI.out]; exact HR.out.2
      have Q21 : Hid _ := H21.out.lens
      clear HR HBL
      go_wp2_with fail
      refine Calls.mono Q21.out ?_
      rintro e21 w21 ⟨rfl, rfl⟩
      clear Q21 hbl
      have Q22 : Hid _ := H21.out.dump
      go_wp2_with fail
      refine Calls.mono Q22.out ?_
      rintro e22 w22 ⟨v, S, rfl, hD, _, ⟨gg, cc, hv⟩, b22⟩
      have hS0 : S = [] := perm_nil hD.1
      subst hS0
      subst hv
      have HB : Hid (Below w.heap.size w w22) := bthen H21.out.bel b22
      clear hD b22 Q22
      go_wp2_with fail
      go_ret
      exact ⟨rfl, HB.out⟩
    | true =>
      have HPM : Hid (p ≤ max A B) := by show p ≤ max A B; simpa using HBL.out
      have wi : IntKind.i64.wrap (p + 1) = p + 1 := by have h1 := HPM.out; have h2 := HAB.out; have h3 := HK.out; rw [IntKind.wrap_i64]; omega
      have QT : Hid _ := HR.out.2.tick
      obtain ⟨ba, hba⟩ : ∃ b, (p == A) = b := ⟨_, rfl⟩
      obtain ⟨bb, hbb⟩ : ∃ b, (p == B) = b := ⟨_, rfl⟩
      have HPA : Hid ((p == A) = ba) := hba
      have HPB : Hid ((p == B) = bb) := hbb
      clear HR HBL
      cases ba with
      | false =>
        cases bb with
        | false =>
          have HEN : Hid (endN (EE P Q an bn k) = 0) := by
            show _ = _
            rw [(EE_tick P Q an bn k).2]
            have h1 := HK.out
            have h2 := HAB.out
            rw [if_neg (by have := HPA.out; simp at this; omega), if_neg (by have := HPB.out; simp at this; omega)]
          rw [HEN.out] at QT
          go_wp2_with fail
          refine Calls.mono QT.out ?_
          rintro e20 w20 ⟨rfl, hF20, _⟩
          have H20 : Hid (FT w t M N (cfL A B) (EE P Q an bn (k + 1)) w20) := by show FT w t M N (cfL A B) _ w20; rw [← (EE_tick P Q an bn k).1]; exact hF20
          clear hF20 QT
          go_wp2_with fail
          go_roundw
          case rel => exact ⟨k + 1, p + 1, rfl, ⟨by have := HK.out; omega, H20.out⟩⟩
          case measure => have := HPM.out; first | (simp only [intOf]; omega) | omega
        | true =>
          have HEN : Hid (endN (EE P Q an bn k) = 1) := by
            show _ = _
            rw [(EE_tick P Q an bn k).2]
            have h1 := HK.out
            have h2 := HAB.out
            rw [if_neg (by have := HPA.out; simp at this; omega), if_pos (by have := HPB.out; simp at this; omega)]
          rw [HEN.out] at QT
          go_wp2_with fail
          refine Calls.mono QT.out ?_
          rintro e20 w20 ⟨rfl, hF20, _⟩
          have H20 : Hid (FT w t M N (cfL A B) (EE P Q an bn (k + 1)) w20) := by show FT w t M N (cfL A B) _ w20; rw [← (EE_tick P Q an bn k).1]; exact hF20
          clear hF20 QT
          go_wp2_with fail
          go_roundw
          case rel => exact ⟨k + 1, p + 1, rfl, ⟨by have := HK.out; omega, H20.out⟩⟩
          case measure => have := HPM.out; first | (simp only [intOf]; omega) | omega
      | true =>
        cases bb with
        | false =>
          have HEN : Hid (endN (EE P Q an bn k) = 1) := by
            show _ = _
            rw [(EE_tick P Q an bn k).2]
            have h1 := HK.out
            have h2 := HAB.out
            rw [if_pos (by have := HPA.out; simp at this; omega), if_neg (by have := HPB.out; simp at this; omega)]
          rw [HEN.out] at QT
          go_wp2_with fail
          refine Calls.mono QT.out ?_
          rintro e20 w20 ⟨rfl, hF20, _⟩
          have H20 : Hid (FT w t M N (cfL A B) (EE P Q an bn (k + 1)) w20) := by show FT w t M N (cfL A B) _ w20; rw [← (EE_tick P Q an bn k).1]; exact hF20
          clear hF20 QT
          go_wp2_with fail
          go_roundw
          case rel => exact ⟨k + 1, p + 1, rfl, ⟨by have := HK.out; omega, H20.out⟩⟩
          case measure => have := HPM.out; first | (simp only [intOf]; omega) | omega
        | true =>
          have HEN : Hid (endN (EE P Q an bn k) = 2) := by
            show _ = _
            rw [(EE_tick P Q an bn k).2]
            have h1 := HK.out
            have h2 := HAB.out
            rw [if_pos (by have := HPA.out; simp at this; omega), if_pos (by have := HPB.out; simp at this; omega)]
          rw [HEN.out] at QT
          go_wp2_with fail
          refine Calls.mono QT.out ?_
          rintro e20 w20 ⟨rfl, hF20, _⟩
          have H20 : Hid (FT w t M N (cfL A B) (EE P Q an bn (k + 1)) w20) := by show FT w t M N (cfL A B) _ w20; rw [← (EE_tick P Q an bn k).1]; exact hF20
          clear hF20 QT
          go_wp2_with fail
          go_roundw
          case rel => exact ⟨k + 1, p + 1, rfl, ⟨by have := HK.out; omega, H20.out⟩⟩
          case measure => have := HPM.out; first | (simp only [intOf]; omega) | omega
end Go.Proofs.YtgbbdbddgeckeaaDoor
