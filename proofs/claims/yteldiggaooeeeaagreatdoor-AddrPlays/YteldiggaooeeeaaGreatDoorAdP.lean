/-
  Layer 4: masks in numbers: masking twice, what a prefix holds.
-/
import Derived.Test.YteldiggaooeeeaaGreatDoorAdCo
namespace Go.Proofs.YteldiggaooeeeaaGreatDoor
open Go.RowKit

theorem same16_rf (x : Nat → Nat) : same16 x x = true := (same16_iff x x).2 (fun _ _ => rfl)
theorem same16_eq {x y z : Nat → Nat} (h : ∀ i, i < 16 → x i = y i) : same16 x z = same16 y z := by
  rw [Bool.eq_iff_iff, same16_iff, same16_iff]
  exact ⟨fun k i hi => (h i hi).symm.trans (k i hi), fun k i hi => (h i hi).trans (k i hi)⟩
theorem mk_and : ∀ a b : Fin 8, (255 * 2 ^ (8 - a.val) % 256) &&& (255 * 2 ^ (8 - b.val) % 256) = 255 * 2 ^ (8 - min a.val b.val) % 256 := by decide
theorem mkA_and {n m i : Nat} (h1 : n < 8 * (i + 1)) (h2 : m < 8 * (i + 1)) : mkA n i &&& mkA m i = mkA (min n m) i := by
  have h := mk_and ⟨n - 8 * i, by omega⟩ ⟨m - 8 * i, by omega⟩
  unfold mkA
  have e : min n m - 8 * i = min (n - 8 * i) (m - 8 * i) := by omega
  rw [e]
  exact h
theorem hdA_two (x : Nat → Nat) (n m i : Nat) : hdA (hdA x n) m i = hdA x (min n m) i := by
  by_cases h1 : 8 * (i + 1) ≤ n
  · have e1 : hdA x n i = x i := by unfold hdA; rw [if_pos h1]
    by_cases h2 : 8 * (i + 1) ≤ m
    · unfold hdA
      rw [if_pos h2, if_pos h1, if_pos (by omega)]
    · rw [show min n m = m by omega]
      show (if 8 * (i + 1) ≤ m then hdA x n i else hdA x n i &&& mkA m i) = if 8 * (i + 1) ≤ m then x i else x i &&& mkA m i
      rw [e1]
  · have e1 : hdA x n i = x i &&& mkA n i := by unfold hdA; rw [if_neg h1]
    by_cases h2 : 8 * (i + 1) ≤ m
    · rw [show min n m = n by omega]
      show (if 8 * (i + 1) ≤ m then hdA x n i else hdA x n i &&& mkA m i) = hdA x n i
      rw [if_pos h2]
    · show (if 8 * (i + 1) ≤ m then hdA x n i else hdA x n i &&& mkA m i) = if 8 * (i + 1) ≤ min n m then x i else x i &&& mkA (min n m) i
      rw [if_neg h2, if_neg (by omega), e1, Nat.and_assoc, mkA_and (by omega) (by omega)]
theorem hdA_lt {x : Nat → Nat} (n : Nat) (h : ∀ i, i < 16 → x i < 256) : ∀ i, i < 16 → hdA x n i < 256 := fun i hi => by
  unfold hdA
  split
  · exact h i hi
  · exact Nat.lt_of_le_of_lt Nat.and_le_left (h i hi)
theorem hdA_le {x : Nat → Nat} {n k : Nat} (h : n ≤ k) (i : Nat) : hdA (hdA x n) k i = hdA x n i := by rw [hdA_two, Nat.min_eq_left h]
theorem hdA_same {x y : Nat → Nat} (n : Nat) (h : ∀ i, i < 16 → x i = y i) : ∀ i, i < 16 → hdA x n i = hdA y n i := fun i hi => by unfold hdA; rw [h i hi]
/-- a masked address is one still -/
theorem vld_mask {V : Int} {x : Nat → Nat} (n : Nat) (h : vld V x = true) : vld V (hdA x n) = true := by
  unfold vld at h ⊢
  rw [Bool.or_eq_true, Bool.and_eq_true] at h ⊢
  refine h.imp id (fun h2 => ⟨h2.1, ?_⟩)
  rw [same16_iff] at h2 ⊢
  intro i hi
  rw [hdA_two, Nat.min_comm, ← hdA_two]
  unfold hdA
  have := h2.2 i hi
  unfold hdA at this
  rw [this]
theorem mk_ok {V : Int} {x : Nat → Nat} {n : Int} : mkE V x n = 0 ↔ vld V x = true ∧ 0 ≤ n ∧ n ≤ (bitV V : Int) := by
  unfold mkE
  cases h : vld V x with
  | false => simp
  | true =>
    simp only [reduceCtorEq, if_false, true_and]
    by_cases h2 : n < 0 ∨ (bitV V : Int) < n
    · rw [if_pos h2]; omega
    · rw [if_neg h2]; omega
theorem mk_at {V : Int} {x : Nat → Nat} {n : Int} (h : mkE V x n = 0) : mkX V x n = hdA x n.toNat ∧ mkV V x n = V := by
  unfold mkX mkV
  rw [if_pos h, if_pos h]
  exact ⟨rfl, rfl⟩
/-- the masked address with that length is a prefix -/
theorem vp_mask {V : Int} {x : Nat → Nat} {n : Int} (h : mkE V x n = 0) : vpE ⟨V, mkX V x n, n⟩ = 0 := by
  obtain ⟨h1, h2, h3⟩ := mk_ok.1 h
  rw [(mk_at h).1]
  unfold vpE
  have h4 : mkE V (hdA x n.toNat) n = 0 := mk_ok.2 ⟨vld_mask _ h1, h2, h3⟩
  rw [if_pos h4, if_pos]
  rw [same16_iff]
  intro i _
  exact hdA_le (Nat.le_refl _) i
/-- what it holds -/
theorem con_mask {V U : Int} {x y : Nat → Nat} {n : Int} (h : mkE V x n = 0) : conB ⟨V, mkX V x n, n⟩ U y = (mkE U y n == 0 && U == V && same16 (mkX U y n) (mkX V x n)) := by
  obtain ⟨_, h2, h3⟩ := mk_ok.1 h
  unfold conB
  rw [vp_mask h]
  show (true && vld U y && V == U && same16 (hdA y n.toNat) (mkX V x n)) = _
  by_cases hU : U = V
  · subst hU
    cases hv : vld U y with
    | false =>
      have : ¬ mkE U y n = 0 := fun e => by rw [mk_ok, hv] at e; simp at e
      simp [this]
    | true =>
      have h4 : mkE U y n = 0 := mk_ok.2 ⟨hv, h2, h3⟩
      rw [(mk_at h4).1, h4]
      simp
  · have e1 : (V == U) = false := by simpa using fun e : V = U => hU e.symm
    have e2 : (U == V) = false := by simpa using hU
    rw [e1, e2]
    simp
theorem con_self {V : Int} {x : Nat → Nat} {n : Int} (h : mkE V x n = 0) : conB ⟨V, mkX V x n, n⟩ V x = true := by
  rw [con_mask h, h]
  simp [same16_rf]
theorem mk_mask {V : Int} {x : Nat → Nat} {n m : Int} (h : mkE V x n = 0) (h2 : 0 ≤ m) (h3 : m ≤ (bitV V : Int)) : mkE V (mkX V x n) m = 0 ∧ ∀ i, mkX V (mkX V x n) m i = hdA x (min n.toNat m.toNat) i := by
  obtain ⟨h1, _, _⟩ := mk_ok.1 h
  have h4 : mkE V (mkX V x n) m = 0 := by rw [(mk_at h).1]; exact mk_ok.2 ⟨vld_mask _ h1, h2, h3⟩
  refine ⟨h4, fun i => ?_⟩
  rw [(mk_at h4).1, (mk_at h).1]
  exact hdA_two _ _ _ _
theorem con_at {V : Int} {x : Nat → Nat} {n : Int} (h : mkE V x n = 0) : conB ⟨V, mkX V x n, n⟩ V (mkX V x n) = true := by
  obtain ⟨_, h2, h3⟩ := mk_ok.1 h
  obtain ⟨e1, e2⟩ := mk_mask h h2 h3
  rw [con_mask h, e1]
  simp only [beq_self_eq_true, Bool.true_and]
  rw [same16_iff]
  intro i _
  rw [e2, Nat.min_self, (mk_at h).1]
/-- masking twice is masking at the smaller number -/
theorem mask_two {V : Int} {x : Nat → Nat} {n m : Int} (h : mkE V x n = 0) (hg : mkE V (mkX V x n) m = 0) : mkE V x (min n m) = 0 ∧ same16 (mkX V (mkX V x n) m) (mkX V x (min n m)) = true := by
  obtain ⟨h1, h2, h3⟩ := mk_ok.1 h
  obtain ⟨_, g2, g3⟩ := mk_ok.1 hg
  have h4 : mkE V x (min n m) = 0 := mk_ok.2 ⟨h1, by omega, by omega⟩
  refine ⟨h4, ?_⟩
  rw [same16_iff]
  intro i _
  rw [(mk_mask h g2 g3).2, (mk_at h4).1]
  congr 1
  omega
/-- a net within another one lies in it -/
theorem con_in {V U : Int} {x y : Nat → Nat} {n m : Int} (h : mkE V x n = 0) (hg : mkE V (mkX V x n) m = 0) (hin : conB ⟨V, mkX V x n, n⟩ U y = true) : conB ⟨V, mkX V x (min n m), min n m⟩ U y = true := by
  obtain ⟨h4, _⟩ := mask_two h hg
  obtain ⟨h1, h2, h3⟩ := mk_ok.1 h
  obtain ⟨_, g2, g3⟩ := mk_ok.1 hg
  rw [con_mask h] at hin
  simp only [Bool.and_eq_true, beq_iff_eq] at hin
  obtain ⟨⟨i1, rfl⟩, i3⟩ := hin
  obtain ⟨v1, _, _⟩ := mk_ok.1 i1
  have h5 : mkE U y (min n m) = 0 := mk_ok.2 ⟨v1, by omega, by omega⟩
  rw [con_mask h4, h5]
  simp only [beq_self_eq_true, Bool.true_and]
  rw [same16_iff] at i3 ⊢
  intro i hi
  rw [(mk_at h5).1, (mk_at h4).1]
  have e := i3 i hi
  rw [(mk_at i1).1, (mk_at h).1] at e
  have e2 := hdA_same m.toNat i3 i hi
  rw [(mk_at i1).1, (mk_at h).1, hdA_two, hdA_two] at e2
  rw [show (min n m).toNat = min n.toNat m.toNat by omega]
  exact e2
end Go.Proofs.YteldiggaooeeeaaGreatDoor
