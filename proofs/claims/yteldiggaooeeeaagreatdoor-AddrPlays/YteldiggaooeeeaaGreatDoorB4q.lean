/-
  addr and weirref4: Valid, ValidPrefix, Contains alike, in numbers; a mask bit by bit.
-/
import Derived.Test.YteldiggaooeeeaaGreatDoorB4p
import Derived.Test.YteldiggaooeeeaaGreatDoorAdCo
namespace Go.Proofs.YteldiggaooeeeaaGreatDoor
open Go.RowKit Go.Maps

theorem low_fin : ∀ (m : Fin 9) (a : Fin 256), (a.val / 2 ^ (8 - m.val) * 2 ^ (8 - m.val) = a.val) ↔ ∀ i : Fin 8, m.val ≤ i.val → ¬ a.val / 2 ^ (7 - i.val) % 2 = 1 := by decide +kernel
theorem low_iff {a m : Nat} (ha : a < 256) (hm : m ≤ 8) : (a / 2 ^ (8 - m) * 2 ^ (8 - m) = a) ↔ ∀ i, i < 8 → m ≤ i → ¬ a / 2 ^ (7 - i) % 2 = 1 := by
  have h := low_fin ⟨m, by omega⟩ ⟨a, ha⟩
  constructor
  · intro e i hi hmi
    exact h.1 e ⟨i, hi⟩ hmi
  · intro e
    exact h.2 (fun i hmi => e i.val i.isLt hmi)
/-- no bit is set from n on -/
theorem same_low {x : Nat → Nat} (n : Nat) (hx : ∀ i, i < 16 → x i < 256) : same16 (hdA x n) x = true ↔ ∀ i, i < 128 → n ≤ i → ¬ btN x i = 1 := by
  rw [same16_iff]
  constructor
  · intro h i hi hn
    have h1 := h (i / 8) (by omega)
    rw [hd_top x n (i / 8) (hx _ (by omega))] at h1
    have h2 := (low_iff (hx (i / 8) (by omega)) (by omega)).1 h1 (i % 8) (by omega) (by omega)
    exact h2
  · intro h j hj
    rw [hd_top x n j (hx j hj)]
    refine (low_iff (hx j hj) (by omega)).2 (fun i hi hm => ?_)
    have h1 := h (8 * j + i) (by omega) (by omega)
    unfold btN at h1
    rw [show (8 * j + i) / 8 = j by omega, show (8 * j + i) % 8 = i by omega] at h1
    exact h1
theorem wd_bit (V : Int) : wdN V = bitV V := by
  unfold wdN bitV
  by_cases h : V = 4
  · subst h; rfl
  · rw [if_neg h]
    have : (V == 4) = false := by simp [h]
    rw [this]
    rfl
theorem mkE_R (V : Int) (x : Nat → Nat) (n : Int) (hx : ∀ i, i < 16 → x i < 256) : mkE V x n = if vR V x then (if decide (n < 0) || decide ((wdN V : Int) < n) then 45 else 0) else 40 := by
  unfold mkE
  rw [vld_vR V x hx, wd_bit]
  cases vR V x with
  | false => rfl
  | true =>
    by_cases h : n < 0 ∨ (bitV V : Int) < n
    · rw [if_neg (by simp), if_pos h, if_pos rfl, if_pos (by simpa using h)]
    · rw [if_neg (by simp), if_neg h, if_pos rfl, if_neg (by simpa using h)]
theorem zero_high {V : Int} {x : Nat → Nat} (hv : vR V x = true) {i : Nat} (hi : i < 128) (h : wdN V ≤ i) : btN x i = 0 := by
  unfold wdN at h
  by_cases h4 : V = 4
  · subst h4
    have h32 : 32 ≤ i := h
    have hv2 : ((List.range 12).all fun i => x (4 + i) == 0) = true := hv
    rw [List.all_eq_true] at hv2
    have h1 := hv2 (i / 8 - 4) (List.mem_range.2 (by omega))
    rw [show 4 + (i / 8 - 4) = i / 8 by omega] at h1
    have h2 : x (i / 8) = 0 := by simpa using h1
    unfold btN
    rw [h2]
    simp
  · have : (V == 4) = false := by simp [h4]
    rw [this] at h
    have h2 : 128 ≤ i := h
    omega
theorem vp_alike (p : PV) (hx : ∀ i, i < 16 → p.x i < 256) : vpE p = vpR p := by
  have hM := mkE_R p.V p.x p.n hx
  unfold vpE vpR
  cases hv : vR p.V p.x with
  | false =>
    rw [hv] at hM
    rw [hM]
    rfl
  | true =>
    rw [hv, if_pos rfl] at hM
    cases hb : (decide (p.n < 0) || decide ((wdN p.V : Int) < p.n)) with
    | true =>
      rw [hb] at hM
      rw [hM]
      rfl
    | false =>
      rw [hb] at hM
      rw [hM]
      simp only [Bool.or_eq_false_iff, decide_eq_false_iff_not] at hb
      show (if same16 (hdA p.x p.n.toNat) p.x = true then 0 else 46) = (if ((List.range (wdN p.V)).any fun i => decide (p.n ≤ (i : Int)) && btN p.x i == 1) = true then 46 else 0)
      have hw : wdN p.V ≤ 128 := by rw [wd_bit]; exact bitV_le _
      have e : (same16 (hdA p.x p.n.toNat) p.x = true) ↔ ¬ ((List.range (wdN p.V)).any fun i => decide (p.n ≤ (i : Int)) && btN p.x i == 1) = true := by
        rw [same_low p.n.toNat hx, List.any_eq_true]
        constructor
        · intro h ⟨i, hi, h1⟩
          have hi' := List.mem_range.1 hi
          simp only [Bool.and_eq_true, decide_eq_true_eq, beq_iff_eq] at h1
          exact h i (by omega) (by omega) h1.2
        · intro h i hi hn h1
          by_cases hl : i < wdN p.V
          · exact h ⟨i, List.mem_range.2 hl, by simp only [Bool.and_eq_true, decide_eq_true_eq, beq_iff_eq]; exact ⟨by omega, h1⟩⟩
          · have := zero_high hv hi (by omega)
            omega
      by_cases hs : same16 (hdA p.x p.n.toNat) p.x = true
      · rw [if_pos hs, if_neg (e.1 hs)]
      · rw [if_neg hs, if_pos (by by_cases h2 : ((List.range (wdN p.V)).any fun i => decide (p.n ≤ (i : Int)) && btN p.x i == 1) = true; exact h2; exact absurd (e.2 h2) hs)]
theorem con_alike (p : PV) (V : Int) (x : Nat → Nat) (hp : ∀ i, i < 16 → p.x i < 256) (hx : ∀ i, i < 16 → x i < 256) : conB p V x = cnR p V x := by
  unfold conB cnR
  rw [vp_alike p hp, vld_vR V x hx]
  by_cases h : vpR p = 0
  · rw [h]
    have hvp : vpE p = 0 := by rw [vp_alike p hp]; exact h
    have hn := vp_n hvp
    have hs : same16 (hdA p.x p.n.toNat) p.x = true := by
      unfold vpE at hvp
      split at hvp
      · split at hvp
        · assumption
        · cases hvp
      · rename_i h1
        exact absurd hvp h1
    have e : same16 (hdA x p.n.toNat) p.x = ((List.range p.n.toNat).all fun i => btN p.x i == btN x i) := by
      rw [Bool.eq_iff_iff, bits_iff (by omega) hx hp, same16_iff]
      have h2 := (same16_iff _ _).1 hs
      constructor
      · intro h3 j hj
        rw [h3 j hj, h2 j hj]
      · intro h3 j hj
        rw [h3 j hj, h2 j hj]
    rw [e]
  · have : (vpR p == 0) = false := by simp [h]
    rw [this]
    simp
theorem mk_step_fin : ∀ (m : Fin 9) (a : Fin 256) (i : Fin 8), a.val / 2 ^ (8 - m.val) * 2 ^ (8 - m.val) / 2 ^ (7 - i.val) % 2 = if i.val < m.val then a.val / 2 ^ (7 - i.val) % 2 else 0 := by decide +kernel
/-- a byte of a mask, bit by bit -/
theorem mk_step {x : Nat → Nat} {n j m : Nat} (hx : x j < 256) (hm : m < 8) : hdA x n j / 2 ^ (8 - (m + 1)) = 2 * (hdA x n j / 2 ^ (8 - m)) + (if 8 * j + m < n then btN x (8 * j + m) else 0) := by
  rw [topA _ m hm]
  congr 1
  rw [hd_top x n j hx, mk_step_fin ⟨min 8 (n - 8 * j), by omega⟩ ⟨x j, hx⟩ ⟨m, hm⟩]
  unfold btN
  rw [show (8 * j + m) / 8 = j by omega, show (8 * j + m) % 8 = m by omega]
  by_cases h : 8 * j + m < n
  · rw [if_pos (by show m < min 8 (n - 8 * j); omega), if_pos h]
  · rw [if_neg (by show ¬ m < min 8 (n - 8 * j); omega), if_neg h]
theorem mk_last {x : Nat → Nat} {n j : Nat} : hdA x n j / 2 ^ (8 - 8) = hdA x n j := by simp
theorem hdA_ltB {x : Nat → Nat} {n j : Nat} (hx : x j < 256) : hdA x n j < 256 := by
  rw [hd_top x n j hx]
  exact Nat.lt_of_le_of_lt (Nat.div_mul_le_self _ _) hx
theorem mk_first {x : Nat → Nat} {n j : Nat} (hx : x j < 256) : hdA x n j / 2 ^ (8 - 0) = 0 := Nat.div_eq_of_lt (hdA_ltB hx)
end Go.Proofs.YteldiggaooeeeaaGreatDoor
