/-
  The walk of AddrOrder: it answers true, whatever it is handed, and writes nothing that was there.
-/
import Derived.Test.YtmgbfjfaplobbaaALess
namespace Go.Proofs.Ytmgbfjfaplobbaa.addrOrder
open Go.RowKit

theorem less_self (V : Int) (x : Nat → Nat) : lessB V V x x = false := by simp [lessB, cmp_self]
theorem less_asym (V U : Int) (x y : Nat → Nat) (h : lessB V U x y = true) : lessB U V y x = false := by
  unfold lessB at *
  split at h
  · rename_i e
    rw [if_pos e.symm]
    exact decide_eq_false (cmp_asym _ _ (of_decide_eq_true h))
  · rename_i e
    rw [if_neg (fun e' => e e'.symm)]
    have := of_decide_eq_true h
    exact decide_eq_false (by omega)
theorem less_one (V U : Int) (x y : Nat → Nat) (hx : ∀ i, x i < 256) (hy : ∀ i, y i < 256) : ((lessB V U x y != lessB U V y x) == !(V == U && same16 x y)) = true := by
  by_cases e : V = U
  · subst e
    by_cases s : same16 x y = true
    · have hb := same_by16 x y s
      simp [lessB, hb, cmp_self, s]
    · have hn : by16 x ≠ by16 y := fun h => s (by16_same x y hx hy h)
      have s' : same16 x y = false := by simpa using s
      simp only [lessB, if_true, s', beq_self_eq_true, Bool.and_false, Bool.not_false]
      by_cases p : Lib.compareBytes (by16 x) (by16 y) < 0
      · have q := cmp_asym _ _ p
        simp [p, q]
      · by_cases q : Lib.compareBytes (by16 y) (by16 x) < 0
        · simp [p, q]
        · exact absurd (cmp_eq0 _ _ (by rw [by16_len, by16_len]) p q) hn
  · have e' : ¬ U = V := fun h => e h.symm
    have eb : (V == U) = false := by simpa using e
    simp only [lessB, if_neg e, if_neg e', eb, Bool.false_and, Bool.not_false]
    by_cases p : V < U
    · have q : ¬ U < V := by omega
      simp [p, q]
    · have q : U < V := by omega
      simp [p, q]
theorem less_trans (V U T : Int) (x y z : Nat → Nat) (h1 : lessB V U x y = true) (h2 : lessB U T y z = true) : lessB V T x z = true := by
  unfold lessB at *
  by_cases e1 : V = U
  · subst e1
    by_cases e2 : V = T
    · subst e2
      simp only [if_true, decide_eq_true_eq] at *
      exact cmp_trans _ _ _ h1 h2
    · rw [if_neg e2] at *
      exact h2
  · rw [if_neg e1] at h1
    by_cases e2 : U = T
    · subst e2
      rw [if_neg e1]
      exact h1
    · rw [if_neg e2] at h2
      simp only [decide_eq_true_eq] at h1 h2
      rw [if_neg (by omega)]
      exact decide_eq_true (by omega)

set_option maxHeartbeats 3200000 in
set_option maxRecDepth 100000 in
theorem walk (V : Int) (x : Nat → Nat) (U : Int) (y : Nat → Nat) (T : Int) (z : Nat → Nat) (w : World) (hx : ∀ i, x i < 256) (hy : ∀ i, y i < 256) (_hz : ∀ i, z i < 256) :
    Calls Try.prog 3 #[.agg (ipCells V x), .agg (ipCells U y), .agg (ipCells T z)] w fun e w' => e = .returned (.bool true) ∧ Below w.heap.size w w' := by
  have HS := less_self V x
  have HA : Hid _ := less_asym V U x y
  have HO : Hid _ := less_one V U x y hx hy
  have HT : Hid _ := less_trans V U T x y z
  have HF : Hid (lessB 4 6 (fun _ => 0) (fun _ => 0) = true) := show lessB 4 6 (fun _ => 0) (fun _ => 0) = true by decide
  have HS' : Hid (lessB V V x x = false) := HS
  clear HS hx hy
  obtain ⟨ab, hab⟩ : ∃ ab, ab = lessB V U x y := ⟨_, rfl⟩
  obtain ⟨ba, hba⟩ : ∃ ba, ba = lessB U V y x := ⟨_, rfl⟩
  obtain ⟨bc, hbc⟩ : ∃ bc, bc = lessB U T y z := ⟨_, rfl⟩
  obtain ⟨ac, hac⟩ : ∃ ac, ac = lessB V T x z := ⟨_, rfl⟩
  have e1 : (ab != ba) = !(V == U && same16 x y) := by rw [hab, hba]; exact eq_of_beq HO.out
  have e2 : ab = true → ba = false := by rw [hab, hba]; exact HA.out
  have e3 : ab = true → bc = true → ac = true := by rw [hab, hbc, hac]; exact HT.out
  obtain ⟨sm, hsm⟩ : ∃ sm, sm = (V == U && same16 x y) := ⟨_, rfl⟩
  rw [← hsm] at e1
  have HSM : Hid ((V == U && same16 x y) = sm) := hsm.symm
  have HAB : Hid (lessB V U x y = ab) := hab.symm
  have HBA : Hid (lessB U V y x = ba) := hba.symm
  have HBC : Hid (lessB U T y z = bc) := hbc.symm
  have HAC : Hid (lessB V T x z = ac) := hac.symm
  have HE : Hid ((ab != ba) = !sm ∧ (ab = true → ba = false) ∧ (ab = true → bc = true → ac = true)) := ⟨e1, e2, e3⟩
  clear hab hba hbc hac hsm e1 e2 e3 HO HA HT
  have bb1 : Below w.heap.size w (w.alloc (.cells (ipCells V x) 24)) := (Below.refl _ _).alloc (Nat.le_refl _) _
  have bb2 := bb1.alloc bb1.size (.cells (ipCells U y) 24)
  have bb3 := bb2.alloc bb2.size (.cells (ipCells T z) 24)
  have x1 := boxed_new w V x 24
  have x2 := x1.old ((Below.refl _ _).alloc (Nat.le_refl _) (.cells (ipCells U y) 24))
  have x3 := x2.old ((Below.refl _ _).alloc (Nat.le_refl _) (.cells (ipCells T z) 24))
  have y1 := boxed_new (w.alloc (.cells (ipCells V x) 24)) U y 24
  have y2 := y1.old ((Below.refl _ _).alloc (Nat.le_refl _) (.cells (ipCells T z) 24))
  have z1 := boxed_new ((w.alloc (.cells (ipCells V x) 24)).alloc (.cells (ipCells U y) 24)) T z 24
  simp only [World.size_alloc] at x3 y2 z1
  clear x1 x2 y1 bb1 bb2
  obtain ⟨A, hA⟩ : ∃ A, A = ipCells V x := ⟨_, rfl⟩
  obtain ⟨C, hC⟩ : ∃ C, C = ipCells U y := ⟨_, rfl⟩
  obtain ⟨D, hD⟩ : ∃ D, D = ipCells T z := ⟨_, rfl⟩
  rw [← hA, ← hC, ← hD] at x3 y2 z1 bb3 ⊢
  clear hA hC hD
  go_enter Try.func3, Try.ntmps3
  go_upto_region 1 with fail
  obtain ⟨W, hW⟩ : ∃ W, W = ((w.alloc (.cells A 24)).alloc (.cells C 24)).alloc (.cells D 24) := ⟨_, rfl⟩
  rw [← hW] at x3 y2 z1 bb3 ⊢
  clear hW
  obtain ⟨B, hB⟩ : ∃ B, B = w.heap.size := ⟨_, rfl⟩
  rw [← hB] at x3 y2 z1 ⊢
  clear hB
  go_wp2_with (first | (refine wpList_load_ip (.tmp 3) rfl B V x rfl x3 rfl ?_) | (refine wpList_load_ip (.tmp 4) rfl (B + 1) U y rfl y2 rfl ?_) | (refine wpList_load_ip (.tmp 5) rfl (B + 1 + 1) T z rfl z1 rfl ?_))
  refine (Less_any V U x y W).mono ?_
  rintro e w1 ⟨rfl, b1⟩
  rw [HAB.out]
  have x4 := x3.old b1
  have y4 := y2.old b1
  have z4 := z1.old b1
  have c1 := bb3.trans (b1.mono bb3.size)
  clear x3 y2 z1 b1 bb3
  go_wp2_with (first | (refine wpList_load_ip (.tmp 3) rfl B V x rfl x4 rfl ?_) | (refine wpList_load_ip (.tmp 4) rfl (B + 1) U y rfl y4 rfl ?_) | (refine wpList_load_ip (.tmp 5) rfl (B + 1 + 1) T z rfl z4 rfl ?_))
  refine (Less_any U V y x w1).mono ?_
  rintro e w2 ⟨rfl, b2⟩
  rw [HBA.out]
  have x5 := x4.old b2
  have y5 := y4.old b2
  have z5 := z4.old b2
  have c2 := c1.trans (b2.mono c1.size)
  clear x4 y4 z4 b2 c1
  go_wp2_with (first | (refine wpList_load_ip (.tmp 3) rfl B V x rfl x5 rfl ?_) | (refine wpList_load_ip (.tmp 4) rfl (B + 1) U y rfl y5 rfl ?_) | (refine wpList_load_ip (.tmp 5) rfl (B + 1 + 1) T z rfl z5 rfl ?_))
  refine (Less_any U T y z w2).mono ?_
  rintro e w3 ⟨rfl, b3⟩
  rw [HBC.out]
  have x6 := x5.old b3
  have y6 := y5.old b3
  have z6 := z5.old b3
  have c3 := c2.trans (b3.mono c2.size)
  clear x5 y5 z5 b3 c2
  go_wp2_with (first | (refine wpList_load_ip (.tmp 3) rfl B V x rfl x6 rfl ?_) | (refine wpList_load_ip (.tmp 4) rfl (B + 1) U y rfl y6 rfl ?_) | (refine wpList_load_ip (.tmp 5) rfl (B + 1 + 1) T z rfl z6 rfl ?_))
  refine (Less_any V T x z w3).mono ?_
  rintro e w4 ⟨rfl, b4⟩
  rw [HAC.out]
  have x7 := x6.old b4
  have y7 := y6.old b4
  have c4 := c3.trans (b4.mono c3.size)
  clear x6 y6 z6 b4 c3
  go_wp2_with fail
  refine (Less_any 4 6 (fun _ => 0) (fun _ => 0) w4).mono ?_
  rintro e w5 ⟨rfl, b5⟩
  rw [HF.out]
  have x8 := x7.old b5
  have y8 := y7.old b5
  have c5 := c4.trans (b5.mono c4.size)
  clear x7 y7 b5 c4
  go_wp2_with (first | (refine wpList_load_ip (.tmp 3) rfl B V x rfl x8 rfl ?_) | (refine wpList_load_ip (.tmp 4) rfl (B + 1) U y rfl y8 rfl ?_))
  refine (Less_any V V x x w5).mono ?_
  rintro e w6 ⟨rfl, b6⟩
  rw [HS'.out]
  have x9 := x8.old b6
  have y9 := y8.old b6
  have c6 := c5.trans (b6.mono c5.size)
  clear x8 y8 b6 c5
  have hcs : (ab = false ∧ ba = false ∧ sm = true) ∨ (ab = true ∧ ba = false ∧ sm = false ∧ bc = false) ∨ (ab = true ∧ ba = false ∧ sm = false ∧ bc = true ∧ ac = true) ∨ (ab = false ∧ ba = true ∧ sm = false) := by
    obtain ⟨e1, e2, e3⟩ := HE.out
    revert e1 e2 e3
    cases ab <;> cases ba <;> cases bc <;> cases ac <;> cases sm <;> simp
  clear HE HAB HBA HBC HAC HF HS'
  rcases hcs with ⟨rfl, rfl, rfl⟩ | ⟨rfl, rfl, rfl, rfl⟩ | ⟨rfl, rfl, rfl, rfl, rfl⟩ | ⟨rfl, rfl, rfl⟩
  all_goals
    go_wp2_with (first | (refine wpList_load_ip (.tmp 3) rfl B V x rfl x9 rfl ?_) | (refine wpList_load_ip (.tmp 4) rfl (B + 1) U y rfl y9 rfl ?_) | (refine wpList_neq_ip (.tmp 38) (.tmp 39) rfl V U x y rfl rfl rfl ?_; rw [HSM.out]))
    go_ret
    exact ⟨rfl, c6⟩
end Go.Proofs.Ytmgbfjfaplobbaa.addrOrder
