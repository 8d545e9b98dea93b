/-
  weirref4: ParseIP of any text.
-/
import Derived.Test.YteldiggaooeeeaaGreatDoorC4k
import Derived.Test.YteldiggaooeeeaaGreatDoorB4r
namespace Go.Proofs.YteldiggaooeeeaaGreatDoor
open Go.RowKit Go.Maps

set_option maxHeartbeats 1600000 in
set_option maxRecDepth 100000 in
theorem parseR_long (s : ByteArray) (w : World) (hs : 45 < s.size) : Calls Tryz.prog 42 #[.string s] w fun r w' => r = .returned (ipO (pIP s)) ∧ Below w.heap.size w w' := by
  have HP : Hid (pIP s = .inr (2, 45)) := by show pIP s = .inr (2, 45); unfold pIP; rw [if_pos hs]
  have q1 : decide ((45 : Int) < (s.size : Int)) = true := decide_eq_true (by omega)
  have q2 : decide (45 < s.size) = true := decide_eq_true hs
  have q3 : (45 : Int) < (s.size : Int) := by omega
  clear hs
  obtain ⟨W, hY⟩ : ∃ Y, Y = w.alloc (.cells (ipCells 0 (fun _ => 0)) 28) := ⟨_, rfl⟩
  have bY : Below w.heap.size w W := by rw [hY]; exact (Below.refl _ _).alloc (Nat.le_refl _) _
  obtain ⟨I, hO⟩ : ∃ O, O = w.heap.size := ⟨_, rfl⟩
  have HNI : Hid (IprAt W I 0 (fun _ => 0)) := by show IprAt W I 0 (fun _ => 0); rw [hY, hO]; exact ipr_new w 0 (fun _ => 0)
  have HLI : Hid (Below w.heap.size w W) := bY
  have HEI : Hid (w.alloc (.cells (ipCells 0 (fun _ => 0)) 28) = W) := hY.symm
  have HOI : Hid (w.heap.size = I) := hO.symm
  clear hY bY hO
  go_enter Tryz.func42, Tryz.ntmps42
  go_wp2_with (first | (refine wpList_alloc_ipr rfl rfl ?_; rw [HEI.out, HOI.out]) | (refine wpList_store_ipr (.tmp 2) (.tmp 16) rfl rfl I 0 (fun _ => 0) 0 (fun _ => 0) rfl rfl HNI.out rfl ?_))
  intro wE hE kE
  have HE : Hid (IprAt wE I 0 (fun _ => 0) ∧ Below w.heap.size w wE) := ⟨hE, HLI.out.trans (kE.below (fun q hq => by have h' : q = I := hq; have := HOI.out; omega) HLI.out.size)⟩
  clear hE kE
  go_wp2_with fail
  refine bodyPost_ret (results_ip3 rfl _ _ I _ _ rfl HE.out.1) rfl ?_
  exact ⟨by rw [HP.out]; rfl, HE.out.2⟩
set_option maxHeartbeats 1600000 in
set_option maxRecDepth 100000 in
theorem parseR_six (s : ByteArray) (x : Nat → Nat) (w : World) (hs : s.size ≤ 45) (hc : hsB s 58 = true) (hd : sxR (sxL s) s.size = .inl x) : Calls Tryz.prog 42 #[.string s] w fun r w' => r = .returned (ipO (pIP s)) ∧ Below w.heap.size w w' := by
  have HS : Hid (s.size ≤ 45) := hs
  have HC : Hid (hsB s 58 = true) := hc
  have q1 : decide ((45 : Int) < (s.size : Int)) = false := decide_eq_false (by omega)
  have hpi := pIP_six hs hc
  rw [hd] at hpi
  have hxo : sixO s = match sxR (sxL s) s.size with | .inl x => .tuple #[.agg (arCells x), .int .i64 0, .int .i64 0] | .inr e => .tuple #[.agg (arCells fun _ => 0), .int .i64 (e.1 : Nat), .int .i64 (e.2 : Nat)] := rfl
  rw [hd] at hxo
  have HP : Hid (pIP s = .inl (6, x)) := hpi
  have HXO : Hid (sixO s = .tuple #[.agg (arCells x), .int .i64 0, .int .i64 0]) := hxo
  clear hs hc hd hpi hxo
  obtain ⟨W, hY⟩ : ∃ Y, Y = w.alloc (.cells (ipCells 0 (fun _ => 0)) 28) := ⟨_, rfl⟩
  have bY : Below w.heap.size w W := by rw [hY]; exact (Below.refl _ _).alloc (Nat.le_refl _) _
  obtain ⟨I, hO⟩ : ∃ O, O = w.heap.size := ⟨_, rfl⟩
  have HNI : Hid (IprAt W I 0 (fun _ => 0)) := by show IprAt W I 0 (fun _ => 0); rw [hY, hO]; exact ipr_new w 0 (fun _ => 0)
  have HLI : Hid (Below w.heap.size w W) := bY
  have HEI : Hid (w.alloc (.cells (ipCells 0 (fun _ => 0)) 28) = W) := hY.symm
  have HOI : Hid (w.heap.size = I) := hO.symm
  clear hY bY hO
  go_enter Tryz.func42, Tryz.ntmps42
  go_wp2_with (first | (refine wpList_alloc_ipr rfl rfl ?_; rw [HEI.out, HOI.out]))
  refine (hasT_any s 58 W (by have := HS.out; omega)).mono ?_
  rintro e1 wz ⟨rfl, rfl⟩
  rw [HC.out]
  go_wp2_with fail
  refine (sixes6_any s W (by have := HS.out; omega)).mono ?_
  rintro e1 w1 ⟨rfl, b1⟩
  rw [HXO.out]
  have H1 : Hid (IprAt w1 I 0 (fun _ => 0) ∧ Below w.heap.size w w1) := ⟨HNI.out.below b1, bthen HLI.out b1⟩
  clear b1
  obtain ⟨w2, hw2⟩ : ∃ w2, w2 = w1.alloc (.cells (arCells fun _ => 0) 26) := ⟨_, rfl⟩
  have l2 : Below w1.heap.size w1 w2 := by rw [hw2]; exact (Below.refl _ _).alloc (Nat.le_refl _) _
  have a2 := arAt_new w1 (arCells fun _ => 0)
  rw [← hw2] at a2
  obtain ⟨D, hD⟩ : ∃ D, w1.heap.size = D := ⟨_, rfl⟩
  rw [hD] at a2
  have HOD : Hid (w1.heap.size = D) := hD
  have HW2 : Hid (w1.alloc (.cells #[.int .u8 0, .int .u8 0, .int .u8 0, .int .u8 0, .int .u8 0, .int .u8 0, .int .u8 0, .int .u8 0, .int .u8 0, .int .u8 0, .int .u8 0, .int .u8 0, .int .u8 0, .int .u8 0, .int .u8 0, .int .u8 0] 26) = w2) := hw2.symm
  have H2 : Hid (IprAt w2 I 0 (fun _ => 0) ∧ ArAt w2 D (arCells fun _ => 0) ∧ Below w.heap.size w w2 ∧ I < D) := ⟨H1.out.1.below l2, a2, bthen H1.out.2 l2, by rw [← hD]; exact H1.out.1.lt⟩
  clear hw2 l2 a2 hD
  go_wp2_with (first | (rw [HOD.out, HW2.out]) | (refine wpList_store_ar (.tmp 5) (.tmp 22) rfl rfl D (fun _ => 0) x rfl rfl H2.out.2.1 rfl ?_))
  intro w3 h3 k3
  have H3 : Hid (IprAt w3 I 0 (fun _ => 0) ∧ ArAt w3 D (arCells x) ∧ Below w.heap.size w w3) := ⟨H2.out.1.ch k3 (by have := H2.out.2.2.2; omega), h3, H2.out.2.2.1.trans (k3.below (fun q hq => by have h1 := H2.out.2.2.2; have h2 := HOI.out; omega) H2.out.2.2.1.size)⟩
  clear h3 k3
  go_wp2_with (first | (refine wpList_load_ar (.tmp 5) rfl D 0 x rfl H3.out.2.1.range rfl ?_) | (refine wpList_ip6 (.const (.int .i64 6)) (.tmp 30) rfl x rfl rfl rfl ?_) | (refine wpList_store_ipr (.tmp 2) (.tmp 31) rfl rfl I 0 (fun _ => 0) 6 x rfl rfl H3.out.1 rfl ?_))
  intro w4 h4 k4
  have H4 : Hid (IprAt w4 I 6 x ∧ Below w.heap.size w w4) := ⟨h4, H3.out.2.2.trans (k4.below (fun q hq => by have h2 := HOI.out; omega) H3.out.2.2.size)⟩
  clear h4 k4
  go_wp2_with fail
  refine bodyPost_ret (results_ip3 rfl _ _ I _ _ rfl H4.out.1) rfl ?_
  exact ⟨by rw [HP.out]; rfl, H4.out.2⟩
theorem sxR_ne {L : SX} {n : Nat} {e : Nat × Nat} (h : sxR L n = .inr e) : e.1 ≠ 0 := by
  unfold sxR at h
  split at h
  · rename_i h1
    injection h with h
    rw [← h]
    exact h1
  · split at h
    · injection h with h
      rw [← h]
      show (42 : Nat) ≠ 0
      decide
    · cases h
set_option maxHeartbeats 1600000 in
set_option maxRecDepth 100000 in
theorem parseR_sixer (s : ByteArray) (en pn : Nat) (w : World) (hs : s.size ≤ 45) (hc : hsB s 58 = true) (hd : sxR (sxL s) s.size = .inr (en, pn)) : Calls Tryz.prog 42 #[.string s] w fun r w' => r = .returned (ipO (pIP s)) ∧ Below w.heap.size w w' := by
  have hne := sxR_ne hd
  have HS : Hid (s.size ≤ 45) := hs
  have HC : Hid (hsB s 58 = true) := hc
  have q1 : decide ((45 : Int) < (s.size : Int)) = false := decide_eq_false (by omega)
  have hpi := pIP_six hs hc
  rw [hd] at hpi
  have hxo : sixO s = match sxR (sxL s) s.size with | .inl x => .tuple #[.agg (arCells x), .int .i64 0, .int .i64 0] | .inr e => .tuple #[.agg (arCells fun _ => 0), .int .i64 (e.1 : Nat), .int .i64 (e.2 : Nat)] := rfl
  rw [hd] at hxo
  have HP : Hid (pIP s = .inr (en, pn)) := hpi
  have HXO : Hid (sixO s = .tuple #[.agg (arCells fun _ => 0), .int .i64 (en : Nat), .int .i64 (pn : Nat)]) := hxo
  have g1 : ((en : Int) != 0) = true := by simp at hne ⊢; omega
  have g2 : ¬ (en : Int) = 0 := by simp at hne; omega
  clear hs hc hd hpi hxo hne
  obtain ⟨W, hY⟩ : ∃ Y, Y = w.alloc (.cells (ipCells 0 (fun _ => 0)) 28) := ⟨_, rfl⟩
  have bY : Below w.heap.size w W := by rw [hY]; exact (Below.refl _ _).alloc (Nat.le_refl _) _
  obtain ⟨I, hO⟩ : ∃ O, O = w.heap.size := ⟨_, rfl⟩
  have HNI : Hid (IprAt W I 0 (fun _ => 0)) := by show IprAt W I 0 (fun _ => 0); rw [hY, hO]; exact ipr_new w 0 (fun _ => 0)
  have HLI : Hid (Below w.heap.size w W) := bY
  have HEI : Hid (w.alloc (.cells (ipCells 0 (fun _ => 0)) 28) = W) := hY.symm
  have HOI : Hid (w.heap.size = I) := hO.symm
  clear hY bY hO
  go_enter Tryz.func42, Tryz.ntmps42
  go_wp2_with (first | (refine wpList_alloc_ipr rfl rfl ?_; rw [HEI.out, HOI.out]))
  refine (hasT_any s 58 W (by have := HS.out; omega)).mono ?_
  rintro e1 wz ⟨rfl, rfl⟩
  rw [HC.out]
  go_wp2_with fail
  refine (sixes6_any s W (by have := HS.out; omega)).mono ?_
  rintro e1 w1 ⟨rfl, b1⟩
  rw [HXO.out]
  have H1 : Hid (IprAt w1 I 0 (fun _ => 0) ∧ Below w.heap.size w w1) := ⟨HNI.out.below b1, bthen HLI.out b1⟩
  clear b1
  obtain ⟨w2, hw2⟩ : ∃ w2, w2 = w1.alloc (.cells (arCells fun _ => 0) 26) := ⟨_, rfl⟩
  have l2 : Below w1.heap.size w1 w2 := by rw [hw2]; exact (Below.refl _ _).alloc (Nat.le_refl _) _
  have a2 := arAt_new w1 (arCells fun _ => 0)
  rw [← hw2] at a2
  obtain ⟨D, hD⟩ : ∃ D, w1.heap.size = D := ⟨_, rfl⟩
  rw [hD] at a2
  have HOD : Hid (w1.heap.size = D) := hD
  have HW2 : Hid (w1.alloc (.cells #[.int .u8 0, .int .u8 0, .int .u8 0, .int .u8 0, .int .u8 0, .int .u8 0, .int .u8 0, .int .u8 0, .int .u8 0, .int .u8 0, .int .u8 0, .int .u8 0, .int .u8 0, .int .u8 0, .int .u8 0, .int .u8 0] 26) = w2) := hw2.symm
  have H2 : Hid (IprAt w2 I 0 (fun _ => 0) ∧ ArAt w2 D (arCells fun _ => 0) ∧ Below w.heap.size w w2 ∧ I < D) := ⟨H1.out.1.below l2, a2, bthen H1.out.2 l2, by rw [← hD]; exact H1.out.1.lt⟩
  clear hw2 l2 a2 hD
  go_wp2_with (first | (rw [HOD.out, HW2.out]) | (refine wpList_store_ar (.tmp 5) (.tmp 22) rfl rfl D (fun _ => 0) (fun _ => 0) rfl rfl H2.out.2.1 rfl ?_))
  intro w3 h3 k3
  have H3 : Hid (IprAt w3 I 0 (fun _ => 0) ∧ ArAt w3 D (arCells (fun _ => 0)) ∧ Below w.heap.size w w3) := ⟨H2.out.1.ch k3 (by have := H2.out.2.2.2; omega), h3, H2.out.2.2.1.trans (k3.below (fun q hq => by have h1 := H2.out.2.2.2; have h2 := HOI.out; omega) H2.out.2.2.1.size)⟩
  clear h3 k3
  go_wp2_with (first | (refine wpList_store_ipr (.tmp 2) (.tmp 27) rfl rfl I 0 (fun _ => 0) 0 (fun _ => 0) rfl rfl H3.out.1 rfl ?_))
  intro wE hE kE
  have HE : Hid (IprAt wE I 0 (fun _ => 0) ∧ Below w.heap.size w wE) := ⟨hE, H3.out.2.2.trans (kE.below (fun q hq => by have h' : q = I := hq; have := HOI.out; omega) H3.out.2.2.size)⟩
  clear hE kE
  go_wp2_with fail
  refine bodyPost_ret (results_ip3 rfl _ _ I _ _ rfl HE.out.1) rfl ?_
  exact ⟨by rw [HP.out]; rfl, HE.out.2⟩
set_option maxHeartbeats 1600000 in
set_option maxRecDepth 100000 in
theorem parseR_fourer (s : ByteArray) (en pn : Nat) (w : World) (hs : s.size ≤ 45) (hc : hsB s 58 = false) (hd : dtd s 4 0 [] = .inr (en, pn)) : Calls Tryz.prog 42 #[.string s] w fun r w' => r = .returned (ipO (pIP s)) ∧ Below w.heap.size w w' := by
  have hne := (dtd_er 4 0 [] hd).1
  have HS : Hid (s.size ≤ 45) := hs
  have HC : Hid (hsB s 58 = false ∧ dtd s 4 0 [] = .inr (en, pn)) := ⟨hc, hd⟩
  have HP : Hid (pIP s = .inr (en, pn)) := by show pIP s = .inr (en, pn); unfold pIP; rw [if_neg (by omega), hc, if_neg (by decide), hd]
  have q1 : decide ((45 : Int) < (s.size : Int)) = false := decide_eq_false (by omega)
  have g1 : ((en : Int) != 0) = true := by simp at hne ⊢; omega
  have g2 : ¬ (en : Int) = 0 := by simp at hne; omega
  clear hs hc hd hne
  obtain ⟨W, hY⟩ : ∃ Y, Y = w.alloc (.cells (ipCells 0 (fun _ => 0)) 28) := ⟨_, rfl⟩
  have bY : Below w.heap.size w W := by rw [hY]; exact (Below.refl _ _).alloc (Nat.le_refl _) _
  obtain ⟨I, hO⟩ : ∃ O, O = w.heap.size := ⟨_, rfl⟩
  have HNI : Hid (IprAt W I 0 (fun _ => 0)) := by show IprAt W I 0 (fun _ => 0); rw [hY, hO]; exact ipr_new w 0 (fun _ => 0)
  have HLI : Hid (Below w.heap.size w W) := bY
  have HEI : Hid (w.alloc (.cells (ipCells 0 (fun _ => 0)) 28) = W) := hY.symm
  have HOI : Hid (w.heap.size = I) := hO.symm
  clear hY bY hO
  go_enter Tryz.func42, Tryz.ntmps42
  go_wp2_with (first | (refine wpList_alloc_ipr rfl rfl ?_; rw [HEI.out, HOI.out]))
  refine (hasT_any s 58 W (by have := HS.out; omega)).mono ?_
  rintro e1 wz ⟨rfl, rfl⟩
  rw [HC.out.1]
  go_wp2_with fail
  refine (dotted_any s 0 W (by have := HS.out; omega) (Nat.zero_le _)).mono ?_
  rintro e1 w1 ⟨hr, b1⟩
  unfold DtR at hr
  rw [HC.out.2] at hr
  obtain rfl := hr
  have H1 : Hid (IprAt w1 I 0 (fun _ => 0) ∧ Below w.heap.size w w1) := ⟨HNI.out.below b1, bthen HLI.out b1⟩
  clear b1
  go_wp2_with (first | (refine wpList_store_ipr (.tmp 2) (.tmp 40) rfl rfl I 0 (fun _ => 0) 0 (fun _ => 0) rfl rfl H1.out.1 rfl ?_))
  intro wE hE kE
  have HE : Hid (IprAt wE I 0 (fun _ => 0) ∧ Below w.heap.size w wE) := ⟨hE, H1.out.2.trans (kE.below (fun q hq => by have h' : q = I := hq; have := HOI.out; omega) H1.out.2.size)⟩
  clear hE kE
  go_wp2_with fail
  refine bodyPost_ret (results_ip3 rfl _ _ I _ _ rfl HE.out.1) rfl ?_
  exact ⟨by rw [HP.out]; rfl, HE.out.2⟩
theorem parseIPR_any (s : ByteArray) (w : World) : Calls Tryz.prog 42 #[.string s] w fun r w' => r = .returned (ipO (pIP s)) ∧ Below w.heap.size w w' := by
  by_cases h1 : s.size ≤ 45
  · cases h2 : hsB s 58 with
    | true =>
      cases hd : sxR (sxL s) s.size with
      | inl x => exact parseR_six s x w h1 h2 hd
      | inr e => exact parseR_sixer s e.1 e.2 w h1 h2 hd
    | false =>
      cases hd : dtd s 4 0 [] with
      | inr e => exact parseR_fourer s e.1 e.2 w h1 h2 hd
      | inl l =>
        have hl : l.length = 4 := by
          obtain ⟨t, ht, h4, _⟩ := dtd_ok 4 0 [] hd
          rw [List.nil_append] at ht
          rw [ht]
          exact h4
        refine (parse4_right s l w h1 h2 hl hd).mono ?_
        rintro r w' ⟨hr, hb⟩
        refine ⟨?_, hb⟩
        have hp : pIP s = .inl (4, fun i => l.getD i 0) := by unfold pIP; rw [if_neg (by omega), h2, if_neg (by decide), hd]
        rw [hr, hp]
        have e : ipCells 4 (pre l 4) = ipCells 4 (fun i => l.getD i 0) := ipc_congr (fun i _ => by
          unfold pre
          by_cases hi : i < 4
          · rw [if_pos hi]
          · rw [if_neg hi, List.getD_eq_getElem?_getD, List.getElem?_eq_none (by omega)]; rfl)
        rw [e]
        rfl
  · exact parseR_long s w (by omega)
end Go.Proofs.YteldiggaooeeeaaGreatDoor
