/-
  FlowMany: the walk.
-/
import Derived.Test.YtgbbdbddgeckeaaDoorFlMn
namespace Go.Proofs.YtgbbdbddgeckeaaDoor
open Go.RowKit Go.Maps

theorem range_tup {w : World} {g o : Nat} {f : FN} (h : w.rangeAt g o (flC f).toList) : w.rangeAt g o (tuC f.x).toList := by
  intro j v hj
  refine h j v ?_
  have hl : j < 37 := (List.getElem?_eq_some_iff.1 hj).1
  have : (flC f).toList = (tuC f.x).toList ++ [.int .i64 f.po, .int .i64 f.st, .int .i64 f.le] := rfl
  rw [this, List.getElem?_append_left (by show j < 37; exact hl)]
  exact hj
theorem neq_self (x : TU) : (!eqP x x) = false := by rw [eqP_refl]; rfl
theorem neqip_self (V : Int) (x : Nat → Nat) : (!(V == V && same16 x x)) = false := by rw [same_self]; simp
set_option maxHeartbeats 6400000 in
set_option maxRecDepth 100000 in
theorem flowMany.walk (w : World) (g : Gl w) (a b : Int) : Calls Tryd.prog 5 #[.int .i64 a, .int .i64 b] w fun r w' => r = .returned (.bool true) ∧ Below w.heap.size w w' := by
  have HG : Hid (Gl w) := g
  clear g
  obtain ⟨A, hA⟩ : ∃ A, min (max a 1) 4200 = A := ⟨_, rfl⟩
  obtain ⟨m, hB⟩ : ∃ B, min (max b 1) 4096 = B := ⟨_, rfl⟩
  obtain ⟨nn, han⟩ : ∃ an : Nat, A = (an : Int) := ⟨A.toNat, by omega⟩
  obtain ⟨mm, hbn⟩ : ∃ bn : Nat, m = (bn : Int) := ⟨m.toNat, by omega⟩
  have HAB : Hid ((1 ≤ A ∧ A ≤ 4200) ∧ (1 ≤ m ∧ m ≤ 4096) ∧ A = (nn : Int) ∧ m = (mm : Int)) := ⟨by omega, by omega, han, hbn⟩
  have HA : Hid (min (max a 1) 4200 = A ∧ min (max b 1) 4096 = m) := ⟨hA, hB⟩
  clear hA hB han hbn
  have hmm := @run_makeMap Tryd.prog
  have Q1 : Hid _ := config0_any w
  go_enter Tryd.func5, Tryd.ntmps5
  go_upto_region 3 with fail
  rw [HA.out.1, HA.out.2]
  go_wp2_with fail
  refine Calls.mono Q1.out ?_
  rintro e1 w1 ⟨rfl, b1⟩
  have H1 : Hid (Below w.heap.size w w1) := b1
  clear Q1 b1
  obtain ⟨Y5, hY⟩ : ∃ Y, Y = w1.alloc (.cells (cfC cz) 26) := ⟨_, rfl⟩
  have bY : Below w1.heap.size w1 Y5 := by rw [hY]; exact (Below.refl _ _).alloc (Nat.le_refl _) _
  obtain ⟨O5, hO⟩ : ∃ O, O = w1.heap.size := ⟨_, rfl⟩
  have HNY : Hid (CfgAt Y5 O5 cz) := by show CfgAt Y5 O5 cz; rw [hY, hO]; exact cfg_new w1 cz
  have HLY : Hid (Below w1.heap.size w1 Y5) := bY
  have HEY : Hid (w1.alloc (.cells (cfC cz) 26) = Y5) := hY.symm
  have HOY : Hid (w1.heap.size = O5) := hO.symm
  clear hY bY hO
  go_wp2_with (first | (refine wpList_alloc_cfg rfl rfl ?_; rw [HEY.out, HOY.out]) | (refine wpList_store_cfg (.tmp 5) (.tmp 25) rfl rfl O5 cz cf0 rfl rfl HNY.out rfl ?_))
  intro w2 h2 k2
  have b2 : Below w1.heap.size w1 w2 := HLY.out.trans (k2.below (fun q hq => by have hq' : q = O5 := hq; have := HOY.out; omega) HLY.out.size)
  have H2 : Hid (Below w.heap.size w w2 ∧ CfgAt w2 O5 cf0 ∧ w.heap.size ≤ O5) := ⟨bthen H1.out b2, h2, by have h1 := H1.out.size; have h2 := HOY.out; omega⟩
  have c0 := h2.c0
  have c18 := h2.c18
  have c19 := h2.c19
  have f0 := h2.fz 0
  have f18 := h2.fz 18
  have f19 := h2.fz 19
  clear h2 k2 b2 HNY HLY HEY HOY H1
  go_upto_region 5 with fail
  obtain ⟨w3, hw3⟩ : ∃ w3, w3 = ((w2.setCell ⟨O5, 0, none⟩ (.int .i64 m)).setCell ⟨O5, 18, none⟩ (.int .i64 20000)).setCell ⟨O5, 19, none⟩ (.int .i64 60000) := ⟨_, rfl⟩
  rw [← hw3]
  have H3 : Hid (Below w.heap.size w w3 ∧ CfgAt w3 O5 (cM m)) := by
    have k3 := (((Ch.refl (fun q => q = O5) w2).set ⟨O5, 0, none⟩ (.int .i64 m) rfl).set ⟨O5, 18, none⟩ (.int .i64 20000) rfl).set ⟨O5, 19, none⟩ (.int .i64 60000) rfl
    rw [← hw3] at k3
    refine ⟨H2.out.1.trans (k3.below (fun q hq => by have hq' : q = O5 := hq; have := H2.out.2.2; omega) H2.out.1.size), ?_⟩
    have hc := H2.out.2.1
    unfold CfgAt at hc ⊢
    have e1 := heap_setCell_same w2 O5 0 _ _ (.int .i64 m) hc
    have e2 := heap_setCell_same (w2.setCell ⟨O5, 0, none⟩ (.int .i64 m)) O5 18 _ _ (.int .i64 20000) e1
    have e3 := heap_setCell_same ((w2.setCell ⟨O5, 0, none⟩ (.int .i64 m)).setCell ⟨O5, 18, none⟩ (.int .i64 20000)) O5 19 _ _ (.int .i64 60000) e2
    rw [hw3, e3]
    rfl
  clear hw3 c0 c18 c19 f0 f18 f19 H2
  have Q4 : Hid _ := ft_new (cM m) w3 w cf0_o (cM_b HAB.out.2.1) HG.out H3.out.1
  go_wp2_with (first | (refine wpList_load_cfg (.tmp 5) rfl O5 (cM m) rfl H3.out.2 rfl ?_))
  refine Calls.mono Q4.out ?_
  rintro e4 w4 ⟨t, M, N, rfl, hF4, b4⟩
  have H4 : Hid (FT w t M N (cM m) [] w4 ∧ CfgAt w4 O5 (cM m)) := ⟨hF4, H3.out.2.below b4⟩
  clear hF4 Q4 H3 b4
  have Q5 : Hid _ := begun_any w4 (H4.out.1.gl HG.out)
  go_wp2_with fail
  refine Calls.mono Q5.out ?_
  rintro e5 w5 ⟨rfl, b5⟩
  have H5 : Hid (FT w t M N (cM m) [] w5 ∧ CfgAt w5 O5 (cM m)) := ⟨H4.out.1.below b5, H4.out.2.below b5⟩
  clear b5 Q5 H4
  go_wp2_with fail
  obtain ⟨w6, hw6⟩ : ∃ w6, w6 = w5.alloc (.map #[] 0) := ⟨_, rfl⟩
  obtain ⟨Kp, hK⟩ : ∃ K, K = w5.heap.size := ⟨_, rfl⟩
  rw [← hw6, ← hK]
  have H6 : Hid (MM w t M N O5 Kp m [] 0 w6 ∧ w.heap.size ≤ Kp) := by
    have b6 : Below w5.heap.size w5 w6 := by rw [hw6]; exact (Below.refl _ _).alloc (Nat.le_refl _) _
    have h1 := H5.out.1.ta.tlt M (.inr (.inl rfl))
    have h2 := H5.out.1.ta.tlt N (.inr (.inr (.inl rfl)))
    have h3 := H5.out.1.bel.size
    refine ⟨⟨H5.out.2.below b6, H5.out.1.below b6, ⟨.map [], ?_, fun k _ => rfl⟩, by omega, by omega⟩, by omega⟩
    rw [hw6, hK]
    exact World.ownsMap_made w5 _ _ _
  clear hw6 hK H5
  go_loopw [9, 10, 11, 12] (fun ix _ _ _ wr => ∃ (i : Nat) (E : List FV), ix = .int .i64 i ∧ Hid (i ≤ nn ∧ FA E (min i mm) 4 ∧ MM w t M N O5 Kp m E (min i mm) wr)) (fun ix _ _ _ _ => nn - (intOf ix).toNat)
  case atStart => exact ⟨0, [], rfl, ⟨Nat.zero_le _, by rw [Nat.zero_min]; exact FA.nil 4, by rw [Nat.zero_min]; exact H6.out.1⟩⟩
  case round =>
    obtain ⟨i, E, rfl, HR⟩ := hrel
    by_cases hlt : i < nn
    · have q1 : decide ((i : Int) < A) = true := by have := HAB.out; simp; omega
      have HI : Hid (i ≤ 4200 ∧ i < nn) := by have := HAB.out; exact ⟨by omega, hlt⟩
      have wi : IntKind.i64.wrap ((i : Int) + 1) = (i : Int) + 1 := by have := HI.out; rw [IntKind.wrap_i64]; omega
      have QA : Hid _ := asks_any i wr HI.out.1
      clear hlt
      go_wp2_with fail
      refine Calls.mono QA.out ?_
      rintro e10 w10 ⟨rfl, b10⟩
      have H10 : Hid (FA E (min i mm) 4 ∧ MM w t M N O5 Kp m E (min i mm) w10) := ⟨HR.out.2.1, HR.out.2.2.below b10⟩
      clear b10 QA HR
      have QO : Hid _ := H10.out.2.ft.out HG.out (ax i) (ax_wf HI.out.1) 0
      go_wp2_with fail
      refine Calls.mono QO.out ?_
      rintro e11 w11 ⟨er, y, E', rfl, hR, hF11, k11⟩
      clear QO
      by_cases hfull : mm ≤ i
      · have q2 : decide ((i : Int) ≥ m) = true := by have := HAB.out; simp; omega
        have hmin : min i mm = mm := by omega
        rw [hmin] at H10
        obtain ⟨her, hy, hE⟩ := out_full hR (ax_ck HI.out.1) (H10.out.1.fF hfull) (show oT 0 (sgN 17 0) ≠ 0 by decide +kernel) (H10.out.1.full HAB.out.2.2.2.symm) (by decide)
        subst her hy
        have H11 : Hid (FA E mm 4 ∧ MM w t M N O5 Kp m E mm w11 ∧ mm ≤ i) := ⟨H10.out.1, H10.out.2.moved k11 (by rw [← hE]; exact hF11), hfull⟩
        clear hR hF11 k11 hE H10 hmin hfull
        obtain ⟨Y10, hY⟩ : ∃ Y, Y = w11.alloc (.cells (tuC xz) 34) := ⟨_, rfl⟩
        have bY : Below w11.heap.size w11 Y10 := by rw [hY]; exact (Below.refl _ _).alloc (Nat.le_refl _) _
        obtain ⟨O10, hO⟩ : ∃ O, O = w11.heap.size := ⟨_, rfl⟩
        have HNY : Hid (TupAt Y10 O10 xz) := by show TupAt Y10 O10 xz; rw [hY, hO]; exact tup_new w11 xz
        have HLY : Hid (Below w11.heap.size w11 Y10) := bY
        have HEY : Hid (w11.alloc (.cells (tuC xz) 34) = Y10) := hY.symm
        have HOY : Hid (w11.heap.size = O10) := hO.symm
        clear hY bY hO
        have QL : Hid _ := fun (A_ : World) (hA_ : MM w t M N O5 Kp m E mm A_) => hA_.ft.lens
        go_wp2_with (first | (refine wpList_alloc_tup rfl rfl ?_; rw [HEY.out, HOY.out]) | (refine wpList_store_tup (.tmp 10) (.tmp 56) rfl rfl O10 xz xz rfl rfl HNY.out rfl ?_))
        intro w12 h12 k12
        have H12 : Hid (MM w t M N O5 Kp m E mm w12 ∧ TupAt w12 O10 xz ∧ E.length = mm) := ⟨H11.out.2.1.below (HLY.out.trans (k12.below (fun q hq => by have hq' : q = O10 := hq; have := HOY.out; omega) HLY.out.size)), h12, H11.out.1.len⟩
        clear h12 k12 HNY HLY HEY HOY
        have Q12 : Hid _ := H12.out.1.ft.lens
        rw [H12.out.2.2] at Q12
        have qm : (((mm : Nat) : Int) != m) = false := by have := HAB.out; simp; omega
        go_wp2_with (first | (refine wpList_load_tup (.tmp 10) rfl O10 xz rfl H12.out.2.1 rfl ?_) | (refine wpList_build_tu0 rfl rfl ?_) | (refine wpList_neq_tu (.tmp 64) (.tmp 65) rfl xz xz rfl rfl false (neq_self _) rfl ?_))
        refine Calls.mono Q12.out ?_
        rintro e13 w13 ⟨rfl, rfl⟩
        clear Q12 QL
        go_wp2_with fail
        go_roundw
        case rel => exact ⟨i + 1, E, by first | rfl | go_num | simp, ⟨by have := HI.out; omega, by rw [show min (i + 1) mm = mm by have := H11.out.2.2; omega]; exact H11.out.1, by rw [show min (i + 1) mm = mm by have := H11.out.2.2; omega]; exact H12.out.1⟩⟩
        case measure => have := HI.out; first | (simp only [intOf]; omega) | (simp [intOf]; omega)
      · have q2 : decide ((i : Int) ≥ m) = false := by have := HAB.out; simp; omega
        have hmin : min i mm = i := by omega
        rw [hmin] at H10
        obtain ⟨her, hy, P, hP, hE⟩ := out_new hR (ax_ck HI.out.1) (H10.out.1.fF (Nat.le_refl i)) (v := 7) (show oT 0 (sgN 17 0) = 7 by decide +kernel) (by decide) (H10.out.1.bg (Nat.le_refl i) HI.out.1 (by have := HAB.out; omega)) (H10.out.1.fp (Nat.le_refl i) HI.out.1)
        subst her
        have hy' : y = yx i := hy
        subst hy'
        have hE' : E' = E ++ [(⟨nM i 4, P⟩ : FV)] := hE
        have H11 : Hid (FA (E ++ [(⟨nM i 4, P⟩ : FV)]) (i + 1) 4 ∧ MM w t M N O5 Kp m (E ++ [(⟨nM i 4, P⟩ : FV)]) i w11 ∧ i < mm) := ⟨H10.out.1.snoc P, H10.out.2.moved k11 (by rw [← hE']; exact hF11), by omega⟩
        clear hR hF11 k11 hE hE' H10 hmin hfull hy hP
        obtain ⟨Y10, hY⟩ : ∃ Y, Y = w11.alloc (.cells (tuC xz) 34) := ⟨_, rfl⟩
        have bY : Below w11.heap.size w11 Y10 := by rw [hY]; exact (Below.refl _ _).alloc (Nat.le_refl _) _
        obtain ⟨O10, hO⟩ : ∃ O, O = w11.heap.size := ⟨_, rfl⟩
        have HNY : Hid (TupAt Y10 O10 xz) := by show TupAt Y10 O10 xz; rw [hY, hO]; exact tup_new w11 xz
        have HLY : Hid (Below w11.heap.size w11 Y10) := bY
        have HEY : Hid (w11.alloc (.cells (tuC xz) 34) = Y10) := hY.symm
        have HOY : Hid (w11.heap.size = O10) := hO.symm
        clear hY bY hO
        go_wp2_with (first | (refine wpList_alloc_tup rfl rfl ?_; rw [HEY.out, HOY.out]) | (refine wpList_store_tup (.tmp 10) (.tmp 56) rfl rfl O10 xz (yx i) rfl rfl HNY.out rfl ?_))
        intro w12 h12 k12
        have H12 : Hid (TupAt w12 O10 (yx i) ∧ MM w t M N O5 Kp m (E ++ [(⟨nM i 4, P⟩ : FV)]) i w12) := ⟨h12, H11.out.2.1.below (HLY.out.trans (k12.below (fun q hq => by have hq' : q = O10 := hq; have := HOY.out; omega) HLY.out.size))⟩
        have HLEN : Hid ((E ++ [(⟨nM i 4, P⟩ : FV)]).length = i + 1) := H11.out.1.len
        have ql : decide ((40000 : Int) - (i : Int) < 20000) = false := by have := HI.out; simp; omega
        have qh : decide ((40000 : Int) - (i : Int) > 60000) = false := by have := HI.out; simp; omega
        have qn : ((((i + 1 : Nat) : Nat) : Int) != (i : Int) + 1) = false := by simp
        clear h12 k12 HNY HLY HEY HOY
        go_upto_region 16 with fail
        refine MixH.start (fun A_ => TupAt A_ O10 (yx i) ∧ MM w t M N O5 Kp m (E ++ [(⟨nM i 4, P⟩ : FV)]) i A_) (by kernel_rfl) ?_
        obtain ⟨wA, hwA⟩ : ∃ wA, wA = w12.drew := ⟨_, rfl⟩
        have bdr : Below w12.heap.size w12 wA := by rw [hwA]; exact (Below.refl _ _).drew
        have hS : TupAt wA O10 (yx i) ∧ MM w t M N O5 Kp m (E ++ [(⟨nM i 4, P⟩ : FV)]) i wA := ⟨H12.out.1.below bdr, H12.out.2.below bdr⟩
        rw [← hwA]
        clear hwA bdr
        refine MixH.takes [true, true, true, true, true] 39 (by kernel_rfl) (by kernel_rfl) (by decide) (by kernel_rfl) hS (fun K hK => ?_)
        simp only [Mix.pick]
        repeat (go_big_quiet_step (fail))
        refine wpQuiet_nil (hK _ ?_)
        clear hK K
        refine MixH.take 38 5 _ (.int .i64 (40000 - (i : Int))) rfl (by kernel_rfl) (by kernel_rfl) (by kernel_rfl) (by kernel_rfl) (yields_int (.tmp 78) rfl ⟨O10, 35, none⟩ (.int .i64 (40000 - (i : Int))) rfl rfl (fun A_ hA => hA.1.c35)) hS (fun a' ha => ?_)
        simp only [Act.put, List.setIfInBounds_toArray, List.set_cons_succ, List.set_cons_zero] at ha
        subst ha
        refine MixH.take 37 6 _ (.bool false) rfl (by kernel_rfl) (by kernel_rfl) (by kernel_rfl) (by kernel_rfl) (yields_lookp (.tmp 77) (.tmp 79) rfl Kp i HI.out.1 rfl rfl rfl (fun A_ hA => hA.2.pm)) hS (fun a' ha => ?_)
        simp only [Act.put, List.setIfInBounds_toArray, List.set_cons_succ, List.set_cons_zero] at ha
        subst ha
        refine MixH.takes [false, false, false, false, false, false, false, true, true, true, false, true] 33 (by kernel_rfl) (by kernel_rfl) (by decide) (by kernel_rfl) hS (fun K hK => ?_)
        simp only [Mix.pick]
        repeat (go_big_quiet_step (fail))
        refine wpQuiet_nil (hK _ ?_)
        clear hK K
        refine MixH.take 32 10 _ (.int .i64 (40000 - (i : Int))) rfl (by kernel_rfl) (by kernel_rfl) (by kernel_rfl) (by kernel_rfl) (yields_int (.tmp 83) rfl ⟨O10, 35, none⟩ (.int .i64 (40000 - (i : Int))) rfl rfl (fun A_ hA => hA.1.c35)) hS (fun a' ha => ?_)
        simp only [Act.put, List.setIfInBounds_toArray, List.set_cons_succ, List.set_cons_zero] at ha
        subst ha
        refine MixH.take 31 12 _ (.int .i64 (20000)) rfl (by kernel_rfl) (by kernel_rfl) (by kernel_rfl) (by kernel_rfl) (yields_int (.tmp 85) rfl ⟨O5, 18, none⟩ (.int .i64 (20000)) rfl rfl (fun A_ hA => hA.2.cf.c18)) hS (fun a' ha => ?_)
        simp only [Act.put, List.setIfInBounds_toArray, List.set_cons_succ, List.set_cons_zero] at ha
        subst ha
        refine MixH.takes [false, false, false, false, false, false, false, false, false, false, false, false, false, true, true, true, true, false, true] 26 (by kernel_rfl) (by kernel_rfl) (by decide) (by kernel_rfl) hS (fun K hK => ?_)
        simp only [Mix.pick]
        repeat (go_big_quiet_step (fail))
        refine wpQuiet_nil (hK _ ?_)
        clear hK K
        refine MixH.take 25 17 _ (.int .i64 (40000 - (i : Int))) rfl (by kernel_rfl) (by kernel_rfl) (by kernel_rfl) (by kernel_rfl) (yields_int (.tmp 90) rfl ⟨O10, 35, none⟩ (.int .i64 (40000 - (i : Int))) rfl rfl (fun A_ hA => hA.1.c35)) hS (fun a' ha => ?_)
        simp only [Act.put, List.setIfInBounds_toArray, List.set_cons_succ, List.set_cons_zero] at ha
        subst ha
        refine MixH.take 24 19 _ (.int .i64 (60000)) rfl (by kernel_rfl) (by kernel_rfl) (by kernel_rfl) (by kernel_rfl) (yields_int (.tmp 92) rfl ⟨O5, 19, none⟩ (.int .i64 (60000)) rfl rfl (fun A_ hA => hA.2.cf.c19)) hS (fun a' ha => ?_)
        simp only [Act.put, List.setIfInBounds_toArray, List.set_cons_succ, List.set_cons_zero] at ha
        subst ha
        refine MixH.takes [false, false, false, false, false, false, false, false, false, false, false, false, false, false, false, false, false, false, false, false, true, true, true, true, false, true] 19 (by kernel_rfl) (by kernel_rfl) (by decide) (by kernel_rfl) hS (fun K hK => ?_)
        simp only [Mix.pick]
        repeat (go_big_quiet_step (fail))
        refine wpQuiet_nil (hK _ ?_)
        clear hK K
        refine MixH.take 18 24 _ (.agg (ipCells 4 o0)) rfl (by kernel_rfl) (by kernel_rfl) (by kernel_rfl) (by kernel_rfl) (yields_ipr (.tmp 97) rfl O10 1 4 o0 rfl rfl (fun A_ hA => hA.1.src)) hS (fun a' ha => ?_)
        simp only [Act.put, List.setIfInBounds_toArray, List.set_cons_succ, List.set_cons_zero] at ha
        subst ha
        refine MixH.take 17 26 _ (.agg (ipCells 4 o0)) rfl (by kernel_rfl) (by kernel_rfl) (by kernel_rfl) (by kernel_rfl) (yields_ipr (.tmp 99) rfl O5 1 4 o0 rfl rfl (fun A_ hA => hA.2.cf.out)) hS (fun a' ha => ?_)
        simp only [Act.put, List.setIfInBounds_toArray, List.set_cons_succ, List.set_cons_zero] at ha
        subst ha
        refine MixH.take 16 27 _ (.bool false) rfl (by kernel_rfl) (by kernel_rfl) (by kernel_rfl) (by kernel_rfl) (yields_neq_ip (.tmp 98) (.tmp 100) rfl 4 4 o0 o0 rfl rfl false (neqip_self 4 o0) rfl) hS (fun a' ha => ?_)
        simp only [Act.put, List.setIfInBounds_toArray, List.set_cons_succ, List.set_cons_zero] at ha
        subst ha
        refine MixH.takes [false, false, false, false, false, false, false, false, false, false, false, false, false, false, false, false, false, false, false, false, false, false, false, false, false, false, false, false, true, true, true, false, true] 12 (by kernel_rfl) (by kernel_rfl) (by decide) (by kernel_rfl) hS (fun K hK => ?_)
        simp only [Mix.pick]
        repeat (go_big_quiet_step (fail))
        refine wpQuiet_nil (hK _ ?_)
        clear hK K
        refine MixH.take 11 31 _ (.agg (ipCells 4 d0)) rfl (by kernel_rfl) (by kernel_rfl) (by kernel_rfl) (by kernel_rfl) (yields_ipr (.tmp 104) rfl O10 18 4 d0 rfl rfl (fun A_ hA => hA.1.dst)) hS (fun a' ha => ?_)
        simp only [Act.put, List.setIfInBounds_toArray, List.set_cons_succ, List.set_cons_zero] at ha
        subst ha
        refine MixH.one [false, false, false, false, false, false, false, false, false, false, false, false, false, false, false, false, false, false, false, false, false, false, false, false, false, false, false, false, false, false, false, false, false, true] 10 33 _ rfl rfl (by kernel_rfl) (by kernel_rfl) (fun K hK => ?_)
        simp only [Mix.pick]
        go_wp2_with fail
        refine Calls.mono (asks_any i wA HI.out.1) ?_
        rintro e16 w16 ⟨rfl, b16⟩
        replace hS : TupAt w16 O10 (yx i) ∧ MM w t M N O5 Kp m (E ++ [(⟨nM i 4, P⟩ : FV)]) i w16 := ⟨hS.1.below b16, hS.2.below b16⟩
        clear b16
        go_wp2_with fail
        refine ⟨rfl, hK _ _ hS ?_⟩
        clear hK K
        refine MixH.take 9 34 _ (.agg (ipCells 4 d0)) rfl (by kernel_rfl) (by kernel_rfl) (by kernel_rfl) (by kernel_rfl) (yields_fielddst (.tmp 107) rfl (ax i) rfl rfl) hS (fun a' ha => ?_)
        simp only [Act.put, List.setIfInBounds_toArray, List.set_cons_succ, List.set_cons_zero] at ha
        subst ha
        refine MixH.take 8 35 _ (.bool false) rfl (by kernel_rfl) (by kernel_rfl) (by kernel_rfl) (by kernel_rfl) (yields_neq_ip (.tmp 105) (.tmp 108) rfl 4 4 d0 d0 rfl rfl false (neqip_self 4 d0) rfl) hS (fun a' ha => ?_)
        simp only [Act.put, List.setIfInBounds_toArray, List.set_cons_succ, List.set_cons_zero] at ha
        subst ha
        refine MixH.takes [false, false, false, false, false, false, false, false, false, false, false, false, false, false, false, false, false, false, false, false, false, false, false, false, false, false, false, false, false, false, false, false, false, false, false, false, true, true, true, false, true, true] 3 (by kernel_rfl) (by kernel_rfl) (by decide) (by kernel_rfl) hS (fun K hK => ?_)
        simp only [Mix.pick]
        repeat (go_big_quiet_step (fail))
        refine wpQuiet_nil (hK _ ?_)
        clear hK K
        refine MixH.one [false, false, false, false, false, false, false, false, false, false, false, false, false, false, false, false, false, false, false, false, false, false, false, false, false, false, false, false, false, false, false, false, false, false, false, false, false, false, false, true] 2 39 _ rfl rfl (by kernel_rfl) (by kernel_rfl) (fun K hK => ?_)
        simp only [Mix.pick]
        go_wp2_with fail
        refine Calls.mono hS.2.ft.lens ?_
        rintro e17 w17 ⟨rfl, rfl⟩
        rw [HLEN.out]
        go_wp2_with fail
        refine ⟨rfl, hK _ _ hS ?_⟩
        clear hK K
        refine MixH.takes [false, false, false, false, false, false, false, false, false, false, false, false, false, false, false, false, false, false, false, false, false, false, false, false, false, false, false, false, false, false, false, false, false, false, false, false, false, false, false, false, false, false, true, true] 0 (by kernel_rfl) (by kernel_rfl) (by decide) (by kernel_rfl) hS (fun K hK => ?_)
        simp only [Mix.pick]
        repeat (go_big_quiet_step (fail))
        refine wpQuiet_nil (hK _ ?_)
        clear hK K
        refine MixH.done (by kernel_rfl) ?_
        have H17 : Hid (TupAt w16 O10 (yx i) ∧ MM w t M N O5 Kp m (E ++ [(⟨nM i 4, P⟩ : FV)]) i w16) := hS
        have c35 : w16.cell? ⟨O10, 35, none⟩ = some (.int .i64 (40000 - (i : Int))) := hS.1.c35
        clear hS H12
        go_wp2_with (first | (refine wpList_put_pm rfl rfl (.tmp 118) (.tmp 120) (.const (.bool true)) rfl Kp i H17.out.2.pm HI.out.1 rfl rfl rfl ?_))
        intro w18 hp18 k18
        have H18 : Hid (TupAt w18 O10 (yx i) ∧ MM w t M N O5 Kp m (E ++ [(⟨nM i 4, P⟩ : FV)]) (i + 1) w18) := by
          obtain ⟨es, ck, hb⟩ := H17.out.2.pm.blk
          exact ⟨H17.out.1.ch k18 (tup_ne H17.out.1 hb), H17.out.2.put H6.out.2 hp18 k18⟩
        clear hp18 k18 H17 c35
        have QR : Hid _ := reverse_any (yx i) w18
        go_wp2_with (first | (refine wpList_load_tup (.tmp 10) rfl O10 (yx i) rfl H18.out.1 rfl ?_))
        refine Calls.mono QR.out ?_
        rintro e19 w19 ⟨rfl, b19⟩
        have H19 : Hid (MM w t M N O5 Kp m (E ++ [(⟨nM i 4, P⟩ : FV)]) (i + 1) w19) := H18.out.2.below b19
        clear b19 QR H18
        have QI : Hid _ := H19.out.ft.inn HG.out (yx i).rev (yx_wf HI.out.1).rev 0
        go_wp2_with fail
        refine Calls.mono QI.out ?_
        rintro e20 w20 ⟨er, z, E', rfl, hR, hF20, k20⟩
        have hmem : (⟨nM i 4, P⟩ : FV) ∈ E ++ [(⟨nM i 4, P⟩ : FV)] := by simp
        obtain ⟨her, hz, hE⟩ := in_same hR (yx_ck HI.out.1) (aw_mem H19.out.ft.ta hmem) (v := 7) (show iT 7 (sgN 17 0) = 7 by decide +kernel) (by decide)
        subst her
        have hz' : z = (ax i).rev := hz
        subst hz'
        rw [turn_same H19.out.ft.ta hmem] at hE
        have H20 : Hid (MM w t M N O5 Kp m (E ++ [(⟨nM i 4, P⟩ : FV)]) (i + 1) w20) := H19.out.moved k20 (by rw [← hE]; exact hF20)
        clear hR hF20 k20 hmem hz hE QI H19
        obtain ⟨Y12, hY⟩ : ∃ Y, Y = w20.alloc (.cells (tuC xz) 34) := ⟨_, rfl⟩
        have bY : Below w20.heap.size w20 Y12 := by rw [hY]; exact (Below.refl _ _).alloc (Nat.le_refl _) _
        obtain ⟨O12, hO⟩ : ∃ O, O = w20.heap.size := ⟨_, rfl⟩
        have HNY : Hid (TupAt Y12 O12 xz) := by show TupAt Y12 O12 xz; rw [hY, hO]; exact tup_new w20 xz
        have HLY : Hid (Below w20.heap.size w20 Y12) := bY
        have HEY : Hid (w20.alloc (.cells (tuC xz) 34) = Y12) := hY.symm
        have HOY : Hid (w20.heap.size = O12) := hO.symm
        clear hY bY hO
        go_wp2_with (first | (refine wpList_alloc_tup rfl rfl ?_; rw [HEY.out, HOY.out]) | (refine wpList_store_tup (.tmp 12) (.tmp 126) rfl rfl O12 xz (ax i).rev rfl rfl HNY.out rfl ?_))
        intro w22 h22 k22
        have H22 : Hid (TupAt w22 O12 (ax i).rev ∧ MM w t M N O5 Kp m (E ++ [(⟨nM i 4, P⟩ : FV)]) (i + 1) w22) := ⟨h22, H20.out.below (HLY.out.trans (k22.below (fun q hq => by have hq' : q = O12 := hq; have := HOY.out; omega) HLY.out.size))⟩
        clear h22 k22 HNY HLY HEY HOY H20
        go_upto_region 20 with fail
        refine MixH.start (fun A_ => TupAt A_ O12 (ax i).rev ∧ MM w t M N O5 Kp m (E ++ [(⟨nM i 4, P⟩ : FV)]) (i + 1) A_) (by kernel_rfl) ?_
        obtain ⟨wB, hwA⟩ : ∃ wA, wA = w22.drew := ⟨_, rfl⟩
        have bdr : Below w22.heap.size w22 wB := by rw [hwA]; exact (Below.refl _ _).drew
        have hS : TupAt wB O12 (ax i).rev ∧ MM w t M N O5 Kp m (E ++ [(⟨nM i 4, P⟩ : FV)]) (i + 1) wB := ⟨H22.out.1.below bdr, H22.out.2.below bdr⟩
        rw [← hwA]
        clear hwA bdr
        refine MixH.takes [true, true, true, false, true] 5 (by kernel_rfl) (by kernel_rfl) (by decide) (by kernel_rfl) hS (fun K hK => ?_)
        simp only [Mix.pick]
        repeat (go_big_quiet_step (fail))
        refine wpQuiet_nil (hK _ ?_)
        clear hK K
        refine MixH.take 4 3 _ (.agg (tuC (ax i).rev)) rfl (by kernel_rfl) (by kernel_rfl) (by kernel_rfl) (by kernel_rfl) (yields_tup (.tmp 12) rfl O12 0 (ax i).rev rfl rfl (fun A_ hA => hA.1.all)) hS (fun a' ha => ?_)
        simp only [Act.put, List.setIfInBounds_toArray, List.set_cons_succ, List.set_cons_zero] at ha
        subst ha
        refine MixH.one [false, false, false, false, false, true] 3 5 _ rfl rfl (by kernel_rfl) (by kernel_rfl) (fun K hK => ?_)
        simp only [Mix.pick]
        go_wp2_with fail
        refine Calls.mono (asks_any i wB HI.out.1) ?_
        rintro e26 w26 ⟨rfl, b26⟩
        replace hS : TupAt w26 O12 (ax i).rev ∧ MM w t M N O5 Kp m (E ++ [(⟨nM i 4, P⟩ : FV)]) (i + 1) w26 := ⟨hS.1.below b26, hS.2.below b26⟩
        clear b26
        go_wp2_with fail
        refine ⟨rfl, hK _ _ hS ?_⟩
        clear hK K
        refine MixH.one [false, false, false, false, false, false, true] 2 6 _ rfl rfl (by kernel_rfl) (by kernel_rfl) (fun K hK => ?_)
        simp only [Mix.pick]
        go_wp2_with fail
        refine Calls.mono (reverse_any (ax i) w26) ?_
        rintro e27 w27 ⟨rfl, b27⟩
        replace hS : TupAt w27 O12 (ax i).rev ∧ MM w t M N O5 Kp m (E ++ [(⟨nM i 4, P⟩ : FV)]) (i + 1) w27 := ⟨hS.1.below b27, hS.2.below b27⟩
        clear b27
        go_wp2_with fail
        refine ⟨rfl, hK _ _ hS ?_⟩
        clear hK K
        refine MixH.take 1 7 _ (.bool false) rfl (by kernel_rfl) (by kernel_rfl) (by kernel_rfl) (by kernel_rfl) (yields_neq_tu (.tmp 131) (.tmp 134) rfl (ax i).rev (ax i).rev rfl rfl false (neq_self _) rfl) hS (fun a' ha => ?_)
        simp only [Act.put, List.setIfInBounds_toArray, List.set_cons_succ, List.set_cons_zero] at ha
        subst ha
        refine MixH.takes [false, false, false, false, false, false, false, false, true] 0 (by kernel_rfl) (by kernel_rfl) (by decide) (by kernel_rfl) hS (fun K hK => ?_)
        simp only [Mix.pick]
        repeat (go_big_quiet_step (fail))
        refine wpQuiet_nil (hK _ ?_)
        clear hK K
        refine MixH.done (by kernel_rfl) ?_
        have H28 : Hid (MM w t M N O5 Kp m (E ++ [(⟨nM i 4, P⟩ : FV)]) (i + 1) w27) := hS.2
        clear hS H22
        go_wp2_with fail
        go_roundw
        case rel => exact ⟨i + 1, E ++ [(⟨nM i 4, P⟩ : FV)], by first | rfl | go_num | simp, ⟨by have := HI.out; omega, by rw [show min (i + 1) mm = i + 1 by have := H11.out.2.2; omega]; exact H11.out.1, by rw [show min (i + 1) mm = i + 1 by have := H11.out.2.2; omega]; exact H28.out⟩⟩
        case measure => have := HI.out; first | (simp only [intOf]; omega) | (simp [intOf]; omega)
    · have q1 : decide ((i : Int) < A) = false := by have := HAB.out; simp; omega
      obtain ⟨C, hC⟩ : ∃ C, min A m = C := ⟨_, rfl⟩
      obtain ⟨kk, hkk⟩ : ∃ kk, kk = min i mm := ⟨_, rfl⟩
      have HKK : Hid (C = (kk : Int) ∧ kk ≤ 4096 ∧ FA E kk 4 ∧ MM w t M N O5 Kp m E kk wr) := by
        have h1 := HAB.out
        have h2 := HR.out.1
        refine ⟨by omega, by omega, by rw [hkk]; exact HR.out.2.1, by rw [hkk]; exact HR.out.2.2⟩
      have HC : Hid (min A m = C) := hC
      clear hlt hC hkk HR
      have QD : Hid _ := HKK.out.2.2.2.ft.dump
      go_upto_region 23 with fail
      rw [HC.out]
      go_wp2_with fail
      refine Calls.mono QD.out ?_
      rintro e30 w30 ⟨v, S, rfl, hD, hF30, ⟨gv, cv, hv⟩, b30⟩
      have hS := HKK.out.2.2.1.dump (by have := HKK.out.2.1; omega) hD
      have hSl : S.length = kk := by rw [hS]; simp
      rw [hSl] at hv
      subst hv
      have H30 : Hid (MM w t M N O5 Kp m E kk w30 ∧ FL w30 w.heap.size (.slice (some ⟨gv, 0, none⟩) kk cv) S ∧ S = (List.range kk).map (fun j => nM j 4)) := ⟨HKK.out.2.2.2.below b30, hF30.mono HKK.out.2.2.2.ft.bel.size, hS⟩
      have qk : ((((kk : Nat)) : Int) != C) = false := by have := HKK.out; simp; omega
      clear hD hF30 b30 hS hSl QD q1
      go_wp2_with fail
      go_loopw [15] (fun ix wx => ∃ (i : Nat), ix = .int .i64 i ∧ Hid (i ≤ kk ∧ MM w t M N O5 Kp m E kk wx ∧ FL wx w.heap.size (.slice (some ⟨gv, 0, none⟩) kk cv) S)) (fun ix _ => kk - (intOf ix).toNat)
      case atStart => exact ⟨0, rfl, ⟨Nat.zero_le _, H30.out.1, H30.out.2.1⟩⟩
      case round =>
        obtain ⟨i, rfl, HR⟩ := hrel
        by_cases hlt : i < kk
        · have q1 : decide ((i : Int) < C) = true := by have := HKK.out; simp; omega
          have k0 : (0 : Int) ≤ (i : Int) := by omega
          have k1 : (i : Int) < (kk : Int) := by omega
          have k2 : ((i : Int)).toNat = i := by omega
          have HI : Hid (i < kk ∧ i ≤ 4200) := ⟨hlt, by have := HKK.out; omega⟩
          have wi : IntKind.i64.wrap ((i : Int) + 1) = (i : Int) + 1 := by have := HI.out; rw [IntKind.wrap_i64]; omega
          have HAT : Hid (∀ A_ : World, FL A_ w.heap.size (.slice (some ⟨gv, 0, none⟩) kk cv) S → A_.rangeAt gv (i * 40) (flC (nM i 4)).toList) := fun A_ hA_ => by
            have hr : S[i]? = some (nM i 4) := by rw [H30.out.2.2, List.getElem?_map, List.getElem?_range HI.out.1]; rfl
            obtain ⟨g', cap', hvg, _, _, hrg⟩ := hA_.at i (nM i 4) hr
            simp only [Value.slice.injEq, Option.some.injEq, Addr.mk.injEq, and_true] at hvg
            rw [hvg.1]
            exact hrg
          clear hlt
          go_upto_region 29 with fail
          refine MixH.start (fun A_ => MM w t M N O5 Kp m E kk A_ ∧ FL A_ w.heap.size (.slice (some ⟨gv, 0, none⟩) kk cv) S) (by kernel_rfl) ?_
          obtain ⟨wA, hwA⟩ : ∃ wA, wA = wr.drew := ⟨_, rfl⟩
          have bdr : Below wr.heap.size wr wA := by rw [hwA]; exact (Below.refl _ _).drew
          have hS : MM w t M N O5 Kp m E kk wA ∧ FL wA w.heap.size (.slice (some ⟨gv, 0, none⟩) kk cv) S := ⟨HR.out.2.1.below bdr, HR.out.2.2.below bdr⟩
          rw [← hwA]
          clear hwA bdr
          refine MixH.takes [true, true, true, true, false, true] 21 (by kernel_rfl) (by kernel_rfl) (by decide) (by kernel_rfl) hS (fun K hK => ?_)
          simp only [Mix.pick]
          repeat (go_big_quiet_step (fail))
          refine wpQuiet_nil (hK _ ?_)
          clear hK K
          refine MixH.take 20 4 _ (.agg (tuC (ax i))) rfl (by kernel_rfl) (by kernel_rfl) (by kernel_rfl) (by kernel_rfl) (yields_tup (.tmp 154) rfl gv (i * 40) (ax i) rfl rfl (fun A_ hA => range_tup (f := nM i 4) (HAT.out A_ hA.2))) hS (fun a' ha => ?_)
          simp only [Act.put, List.setIfInBounds_toArray, List.set_cons_succ, List.set_cons_zero] at ha
          subst ha
          refine MixH.one [false, false, false, false, false, false, true] 19 6 _ rfl rfl (by kernel_rfl) (by kernel_rfl) (fun K hK => ?_)
          simp only [Mix.pick]
          go_wp2_with fail
          refine Calls.mono (asks_any i wA HI.out.2) ?_
          rintro e36 w36 ⟨rfl, b36⟩
          replace hS : MM w t M N O5 Kp m E kk w36 ∧ FL w36 w.heap.size (.slice (some ⟨gv, 0, none⟩) kk cv) S := ⟨hS.1.below b36, hS.2.below b36⟩
          clear b36
          go_wp2_with fail
          refine ⟨rfl, hK _ _ hS ?_⟩
          clear hK K
          refine MixH.take 18 7 _ (.bool false) rfl (by kernel_rfl) (by kernel_rfl) (by kernel_rfl) (by kernel_rfl) (yields_neq_tu (.tmp 155) (.tmp 157) rfl (ax i) (ax i) rfl rfl false (neq_self _) rfl) hS (fun a' ha => ?_)
          simp only [Act.put, List.setIfInBounds_toArray, List.set_cons_succ, List.set_cons_zero] at ha
          subst ha
          refine MixH.takes [false, false, false, false, false, false, false, false, true, true, true, true, true, false, true] 12 (by kernel_rfl) (by kernel_rfl) (by decide) (by kernel_rfl) hS (fun K hK => ?_)
          simp only [Mix.pick]
          repeat (go_big_quiet_step (fail))
          refine wpQuiet_nil (hK _ ?_)
          clear hK K
          refine MixH.take 11 13 _ (.int .i64 4) rfl (by kernel_rfl) (by kernel_rfl) (by kernel_rfl) (by kernel_rfl) (yields_int (.tmp 163) rfl ⟨gv, i * 40 + 39, none⟩ (.int .i64 4) rfl rfl (fun A_ hA => HAT.out A_ hA.2 39 _ rfl)) hS (fun a' ha => ?_)
          simp only [Act.put, List.setIfInBounds_toArray, List.set_cons_succ, List.set_cons_zero] at ha
          subst ha
          refine MixH.take 10 15 _ (.int .i64 (4)) rfl (by kernel_rfl) (by kernel_rfl) (by kernel_rfl) (by kernel_rfl) (yields_int (.tmp 165) rfl ⟨O5, 23, none⟩ (.int .i64 (4)) rfl rfl (fun A_ hA => hA.1.cf.c23)) hS (fun a' ha => ?_)
          simp only [Act.put, List.setIfInBounds_toArray, List.set_cons_succ, List.set_cons_zero] at ha
          subst ha
          refine MixH.takes [false, false, false, false, false, false, false, false, false, false, false, false, false, false, false, false, true, true, true, true, true, true, true] 3 (by kernel_rfl) (by kernel_rfl) (by decide) (by kernel_rfl) hS (fun K hK => ?_)
          simp only [Mix.pick]
          repeat (go_big_quiet_step (fail))
          refine wpQuiet_nil (hK _ ?_)
          clear hK K
          refine MixH.take 2 23 _ (.int .i64 7) rfl (by kernel_rfl) (by kernel_rfl) (by kernel_rfl) (by kernel_rfl) (yields_int (.tmp 173) rfl ⟨gv, i * 40 + 38, none⟩ (.int .i64 7) rfl rfl (fun A_ hA => HAT.out A_ hA.2 38 _ rfl)) hS (fun a' ha => ?_)
          simp only [Act.put, List.setIfInBounds_toArray, List.set_cons_succ, List.set_cons_zero] at ha
          subst ha
          refine MixH.takes [false, false, false, false, false, false, false, false, false, false, false, false, false, false, false, false, false, false, false, false, false, false, false, false, true, true] 0 (by kernel_rfl) (by kernel_rfl) (by decide) (by kernel_rfl) hS (fun K hK => ?_)
          simp only [Mix.pick]
          repeat (go_big_quiet_step (fail))
          refine wpQuiet_nil (hK _ ?_)
          clear hK K
          refine MixH.done (by kernel_rfl) ?_
          have H37 : Hid (MM w t M N O5 Kp m E kk w36 ∧ FL w36 w.heap.size (.slice (some ⟨gv, 0, none⟩) kk cv) S) := hS
          clear hS HR
          go_wp2_with fail
          go_roundw
          case rel => exact ⟨i + 1, by first | rfl | go_num | simp, ⟨by have := HI.out; omega, H37.out⟩⟩
          case measure => have := HI.out; first | (simp only [intOf]; omega) | (simp [intOf]; omega)
        · have q1 : decide ((i : Int) < C) = false := by have := HKK.out; simp; omega
          have H40 : Hid (CfgAt wr O5 (cM m) ∧ FT w t M N (cM m) E wr) := ⟨HR.out.2.1.cf, HR.out.2.1.ft⟩
          clear hlt HR H30
          go_wp2_with fail
          go_loopw [16, 17] (fun ix _ wx => ∃ (k : Nat) (p : Int) (E4 : List FV), ix = .int .i64 p ∧ Hid (p = (k : Int) + 1 ∧ k ≤ 4) ∧ Hid (CfgAt wx O5 (cM m) ∧ FT w t M N (cM m) E4 wx ∧ (k < 4 → FA E4 kk (4 - (k : Int))) ∧ (k = 4 → E4 = []))) (fun ix _ _ => 5 - (intOf ix).toNat)
          case atStart => exact ⟨0, 1, E, rfl, ⟨rfl, by omega⟩, ⟨H40.out.1, H40.out.2, fun _ => HKK.out.2.2.1, fun h => by omega⟩⟩
          case round =>
            obtain ⟨k, p, E4, rfl, HPK, HR⟩ := hrel
            have hk4 := HPK.out.2
            have c23 : wr.cell? ⟨O5, 23, none⟩ = some (.int .i64 4) := HR.out.1.c23
            by_cases hk3 : k = 4
            · subst hk3
              have ql : decide (p ≤ 4) = false := by have := HPK.out; simp; omega
              have H41 : Hid (FT w t M N (cM m) [] wr) := by show FT w t M N (cM m) [] wr; rw [← HR.out.2.2.2 rfl]; exact HR.out.2.1
              have Q41 : Hid _ := asks_any 0 wr (by decide)
              clear HR hk4
              go_wp2_with fail
              refine Calls.mono Q41.out ?_
              rintro e41 w41 ⟨rfl, b41⟩
              have H42 : Hid (FT w t M N (cM m) [] w41) := H41.out.below b41
              clear b41 Q41 H41
              have Q42 : Hid _ := H42.out.out HG.out (ax 0) (ax_wf (by decide)) 0
              go_wp2_with fail
              refine Calls.mono Q42.out ?_
              rintro e42 w42 ⟨er, y, E', rfl, hR, hF42, k42⟩
              obtain ⟨her, hy, P, hP, hE⟩ := out_new hR (ax_ck (by decide)) ((FA.nil 4).fF (Nat.le_refl 0)) (v := 7) (by decide +kernel) (by decide) ((FA.nil 4).bg (Nat.le_refl 0) (by decide) (by have := HAB.out; omega)) ((FA.nil 4).fp (Nat.le_refl 0) (by decide))
              subst her
              have hy' : y = yx 0 := hy
              subst hy'
              have H43 : Hid (∃ E5, FT w t M N (cM m) E5 w42 ∧ E5.length = 1) := ⟨E', hF42, by rw [hE]; rfl⟩
              clear hR hF42 k42 hy hP hE Q42 H42
              obtain ⟨E5, hE5⟩ := H43.out
              have H44 : Hid (FT w t M N (cM m) E5 w42 ∧ E5.length = 1) := hE5
              clear hE5 H43
              obtain ⟨Y18, hY⟩ : ∃ Y, Y = w42.alloc (.cells (tuC xz) 34) := ⟨_, rfl⟩
              have bY : Below w42.heap.size w42 Y18 := by rw [hY]; exact (Below.refl _ _).alloc (Nat.le_refl _) _
              obtain ⟨O18, hO⟩ : ∃ O, O = w42.heap.size := ⟨_, rfl⟩
              have HNY : Hid (TupAt Y18 O18 xz) := by show TupAt Y18 O18 xz; rw [hY, hO]; exact tup_new w42 xz
              have HLY : Hid (Below w42.heap.size w42 Y18) := bY
              have HEY : Hid (w42.alloc (.cells (tuC xz) 34) = Y18) := hY.symm
              have HOY : Hid (w42.heap.size = O18) := hO.symm
              clear hY bY hO
              go_wp2_with (first | (refine wpList_alloc_tup rfl rfl ?_; rw [HEY.out, HOY.out]) | (refine wpList_store_tup (.tmp 18) (.tmp 204) rfl rfl O18 xz (yx 0) rfl rfl HNY.out rfl ?_))
              intro w43 h43 k43
              have H45 : Hid (FT w t M N (cM m) E5 w43 ∧ E5.length = 1) := ⟨H44.out.1.below (HLY.out.trans (k43.below (fun q hq => by have hq' : q = O18 := hq; have := HOY.out; omega) HLY.out.size)), H44.out.2⟩
              have c35 : w43.cell? ⟨O18, 35, none⟩ = some (.int .i64 40000) := h43.c35
              clear h43 k43 HNY HLY HEY HOY H44
              have Q45 : Hid _ := H45.out.1.dump
              go_wp2_with fail
              refine Calls.mono Q45.out ?_
              rintro e45 w45 ⟨v2, S2, rfl, hD, _, ⟨g2, c2, hv2⟩, b45⟩
              have hl2 : S2.length = 1 := by rw [hD.1.length_eq, List.length_map]; exact H45.out.2
              rw [hl2] at hv2
              subst hv2
              have HB : Hid (Below w.heap.size w w45) := bthen H45.out.1.bel b45
              clear hD b45 hl2 Q45
              go_wp2_with fail
              go_ret
              exact ⟨rfl, HB.out⟩
            · have HK4 : Hid (k < 4 ∧ FA E4 kk (4 - (k : Int))) := ⟨by omega, HR.out.2.2.1 (by omega)⟩
              have QT : Hid _ := HR.out.2.1.tick
              have HCF : Hid (CfgAt wr O5 (cM m) ∧ ¬ TB t M N E4 O5) := ⟨HR.out.1, cfg_tb HR.out.2.1.ta HR.out.1⟩
              clear HR
              by_cases hk2 : k = 3
              · subst hk2
                have hlast := HK4.out.2.last
                rw [hlast.1, hlast.2] at QT
                clear hlast hk3 hk4
                have qc : ((kk : Int) != C) = false := qk
                have qe : (p == 4) = true := by have := HPK.out; simp; omega
                have ql : decide (p ≤ 4) = true := by have := HPK.out; simp; omega
                have wi : IntKind.i64.wrap (p + 1) = p + 1 := by have := HPK.out; rw [IntKind.wrap_i64]; omega
                have qz : IntKind.i64.wrap (C - C) = 0 := by rw [show C - C = 0 by omega]; rfl
                go_wp2_with fail
                refine Calls.mono QT.out ?_
                rintro e50 w50 ⟨rfl, hF50, k50⟩
                have H50 : Hid (CfgAt w50 O5 (cM m) ∧ FT w t M N (cM m) [] w50) := ⟨HCF.out.1.ch k50 HCF.out.2, hF50⟩
                clear hF50 k50 QT
                have Q50 : Hid _ := H50.out.2.lens
                go_wp2_with fail
                refine Calls.mono Q50.out ?_
                rintro e51 w51 ⟨rfl, rfl⟩
                clear Q50
                go_wp2_with fail
                go_roundw
                case rel => exact ⟨4, p + 1, [], rfl, ⟨by have := HPK.out; omega, by omega⟩, ⟨H50.out.1, H50.out.2, fun h => by omega, fun _ => rfl⟩⟩
                case measure => have := HPK.out; first | (simp only [intOf]; omega) | (simp [intOf]; omega)
              · have htk := HK4.out.2.tick (by have := HK4.out.1; omega)
                have HFA : Hid (FA (E4.filterMap tk1) kk (4 - ((k + 1 : Nat) : Int))) := by
                  have h1 := htk.1
                  rw [show (4 : Int) - (k : Int) - 1 = 4 - ((k + 1 : Nat) : Int) by omega] at h1
                  exact h1
                rw [htk.2] at QT
                have qe : (p == 4) = false := by have := HPK.out; simp; omega
                have ql : decide (p ≤ 4) = true := by have := HPK.out; have := HK4.out; simp; omega
                have wz : wrap64 C = C := by have := HKK.out; unfold wrap64; omega
                have wi : IntKind.i64.wrap (p + 1) = p + 1 := by have := HPK.out; rw [IntKind.wrap_i64]; omega
                have HKL : Hid (k < 3) := by have := HK4.out; show k < 3; omega
                clear htk hk3 hk4 hk2
                go_wp2_with fail
                refine Calls.mono QT.out ?_
                rintro e50 w50 ⟨rfl, hF50, k50⟩
                have H50 : Hid (CfgAt w50 O5 (cM m) ∧ FT w t M N (cM m) (E4.filterMap tk1) w50) := ⟨HCF.out.1.ch k50 HCF.out.2, hF50⟩
                clear hF50 k50 QT
                have Q50 : Hid _ := H50.out.2.lens
                rw [HFA.out.len] at Q50
                go_wp2_with fail
                refine Calls.mono Q50.out ?_
                rintro e51 w51 ⟨rfl, rfl⟩
                clear Q50
                go_wp2_with fail
                go_roundw
                case rel => exact ⟨k + 1, p + 1, E4.filterMap tk1, rfl, ⟨by have := HPK.out; omega, by have := HKL.out; omega⟩, ⟨H50.out.1, H50.out.2, fun _ => HFA.out, fun h => by have := HKL.out; omega⟩⟩
                case measure => have := HKL.out; have := HPK.out; first | (simp only [intOf]; omega) | (simp [intOf]; omega)
end Go.Proofs.YtgbbdbddgeckeaaDoor
