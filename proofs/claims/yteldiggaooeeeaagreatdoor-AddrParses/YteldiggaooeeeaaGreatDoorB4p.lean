/-
  addr.Class and weirref4.Class answer alike.
-/
import Derived.Test.YteldiggaooeeeaaGreatDoorZbb
import Derived.Test.YteldiggaooeeeaaGreatDoorZw
namespace Go.Proofs.YteldiggaooeeeaaGreatDoor
open Go.RowKit Go.Maps

theorem topA (a m : Nat) (h : m < 8) : a / 2 ^ (8 - (m + 1)) = 2 * (a / 2 ^ (8 - m)) + a / 2 ^ (7 - m) % 2 := by
  rw [show 8 - (m + 1) = 7 - m by omega, show 8 - m = (7 - m) + 1 by omega, Nat.pow_succ, ← Nat.div_div_eq_div_mul]
  omega
theorem top_iff {a b : Nat} (ha : a < 256) (hb : b < 256) : ∀ m, m ≤ 8 → ((∀ i, i < m → a / 2 ^ (7 - i) % 2 = b / 2 ^ (7 - i) % 2) ↔ a / 2 ^ (8 - m) = b / 2 ^ (8 - m))
  | 0, _ => by
    have e1 : a / 2 ^ (8 - 0) = 0 := Nat.div_eq_of_lt (by simpa using ha)
    have e2 : b / 2 ^ (8 - 0) = 0 := Nat.div_eq_of_lt (by simpa using hb)
    rw [e1, e2]
    exact ⟨fun _ => rfl, fun _ i hi => by omega⟩
  | m + 1, h => by
    have ih := top_iff ha hb m (by omega)
    have k1 := topA a m (by omega)
    have k2 := topA b m (by omega)
    constructor
    · intro hall
      have h1 := ih.1 (fun i hi => hall i (by omega))
      have h2 := hall m (by omega)
      omega
    · intro heq i hi
      have h1 : a / 2 ^ (8 - m) = b / 2 ^ (8 - m) := by omega
      by_cases him : i = m
      · subst him; omega
      · exact ih.2 h1 i (by omega)
theorem mk_fin : ∀ (m : Fin 9) (a : Fin 256), a.val &&& (255 * 2 ^ (8 - m.val) % 256) = a.val / 2 ^ (8 - m.val) * 2 ^ (8 - m.val) := by decide +kernel
theorem hd_top (x : Nat → Nat) (n j : Nat) (hx : x j < 256) : hdA x n j = x j / 2 ^ (8 - min 8 (n - 8 * j)) * 2 ^ (8 - min 8 (n - 8 * j)) := by
  unfold hdA
  split
  · rename_i h
    rw [show min 8 (n - 8 * j) = 8 by omega]
    simp
  · rename_i h
    unfold mkA
    rw [show min 8 (n - 8 * j) = n - 8 * j by omega]
    exact mk_fin ⟨n - 8 * j, by omega⟩ ⟨x j, hx⟩
theorem bits_iff {x p : Nat → Nat} {n : Nat} (hn : n ≤ 128) (hx : ∀ i, i < 16 → x i < 256) (hp : ∀ i, i < 16 → p i < 256) : ((List.range n).all fun i => btN p i == btN x i) = true ↔ ∀ j, j < 16 → hdA x n j = hdA p n j := by
  rw [List.all_eq_true]
  constructor
  · intro h j hj
    rw [hd_top x n j (hx j hj), hd_top p n j (hp j hj)]
    have := (top_iff (hp j hj) (hx j hj) (min 8 (n - 8 * j)) (by omega)).1 (fun i hi => by
      have h1 := h (8 * j + i) (List.mem_range.2 (by omega))
      simp only [btN, beq_iff_eq] at h1
      rw [show (8 * j + i) / 8 = j by omega, show (8 * j + i) % 8 = i by omega] at h1
      exact h1)
    rw [this]
  · intro h i hi
    have hi' := List.mem_range.1 hi
    have h1 := h (i / 8) (by omega)
    rw [hd_top x n (i / 8) (hx _ (by omega)), hd_top p n (i / 8) (hp _ (by omega))] at h1
    have h2 := Nat.eq_of_mul_eq_mul_right (Nat.pow_pos (by omega)) h1
    have h3 := (top_iff (hp (i / 8) (by omega)) (hx (i / 8) (by omega)) (min 8 (n - 8 * (i / 8))) (by omega)).2 h2.symm (i % 8) (by omega)
    simp only [btN, beq_iff_eq]
    exact h3
theorem vld_vR (V : Int) (x : Nat → Nat) (hx : ∀ i, i < 16 → x i < 256) : vld V x = vR V x := by
  unfold vld vR
  by_cases h4 : V = 4
  · subst h4
    have e : same16 (hdA x 32) x = (List.range 12).all fun i => x (4 + i) == 0 := by
      rw [Bool.eq_iff_iff, same16_iff, List.all_eq_true]
      constructor
      · intro h i hi
        have hi' := List.mem_range.1 hi
        have h1 := h (4 + i) (by omega)
        rw [hd_top x 32 (4 + i) (hx _ (by omega)), show min 8 (32 - 8 * (4 + i)) = 0 by omega] at h1
        have h2 : x (4 + i) / 2 ^ (8 - 0) = 0 := Nat.div_eq_of_lt (by simpa using hx (4 + i) (by omega))
        rw [h2] at h1
        simp at h1
        simp [← h1]
      · intro h j hj
        by_cases h3 : j < 4
        · unfold hdA; rw [if_pos (by omega)]
        · have h1 := h (j - 4) (List.mem_range.2 (by omega))
          rw [show 4 + (j - 4) = j by omega] at h1
          have h2 : x j = 0 := by simpa using h1
          rw [hd_top x 32 j (hx j hj), h2]
          simp
    have e0 : ((4 : Int) == 6) = false := by decide
    have e1 : ((4 : Int) == 4) = true := by decide
    rw [e0, e1, e]
    simp
  · have e1 : (V == 4) = false := by simp [h4]
    rw [e1]
    simp
theorem cn_mt {p : PV} {k : Nat} {V : Int} {x : Nat → Nat} (hx : ∀ i, i < 16 → x i < 256) (hv : vR V x = true) (hp : vpR p = 0) (hV : p.V = vr k) (hn : p.n = (ln k : Nat)) (hl : ln k ≤ 128) (hb : ∀ j, j < 16 → p.x j = nt k j) (h256 : ∀ j, j < 16 → p.x j < 256) (hh : ∀ j, j < 16 → hdA p.x (ln k) j = p.x j) : cnR p V x = mt V x k := by
  unfold cnR mt
  rw [hp, hv, hV, hn]
  have e : ((List.range ((ln k : Nat) : Int).toNat).all fun i => btN p.x i == btN x i) = same16 (hdA x (ln k)) (nt k) := by
    rw [Int.toNat_natCast, Bool.eq_iff_iff, bits_iff hl hx h256, same16_iff]
    constructor
    · intro h j hj
      rw [h j hj, hh j hj, hb j hj]
    · intro h j hj
      rw [h j hj, hh j hj, hb j hj]
  rw [e]
  rfl
def ckM (L : List Nat) (k : Nat) : Bool := decide (ln k ≤ 128) && (List.range 16).all fun j => decide (bt L j = nt k j) && decide (bt L j < 256) && decide (hdA (bt L) (ln k) j = bt L j)
theorem cn_ck {L : List Nat} {n k : Nat} {U : Int} {V : Int} {x : Nat → Nat} (hx : ∀ i, i < 16 → x i < 256) (hv : vR V x = true) (hp : vpR ⟨U, bt L, (n : Nat)⟩ = 0) (hV : U = vr k) (hn : n = ln k) (hc : ckM L k = true) : cnR ⟨U, bt L, (n : Nat)⟩ V x = mt V x k := by
  unfold ckM at hc
  simp only [Bool.and_eq_true, decide_eq_true_eq, List.all_eq_true, List.mem_range] at hc
  exact cn_mt hx hv hp hV (by rw [hn]) hc.1 (fun j hj => (hc.2 j hj).1.1) (fun j hj => (hc.2 j hj).1.2) (fun j hj => (hc.2 j hj).2)
theorem class_alike (V : Int) (x : Nat → Nat) (hx : ∀ i, i < 16 → x i < 256) : clsA V x = (clR V x : Nat) := by
  unfold clsA
  rw [vld_vR V x hx]
  by_cases hv : vR V x = true
  · rw [if_pos hv]
    unfold clR
    rw [cn_ck (k := 0) hx hv tx4_0.vp rfl rfl (by decide +kernel)]
    rw [cn_ck (k := 1) hx hv tx6_0.vp rfl rfl (by decide +kernel)]
    rw [cn_ck (k := 2) hx hv tx4_1.vp rfl rfl (by decide +kernel)]
    rw [cn_ck (k := 3) hx hv tx6_1.vp rfl rfl (by decide +kernel)]
    rw [cn_ck (k := 4) hx hv tx4_2.vp rfl rfl (by decide +kernel)]
    rw [cn_ck (k := 5) hx hv tx6_2.vp rfl rfl (by decide +kernel)]
    rw [cn_ck (k := 6) hx hv tx4_3.vp rfl rfl (by decide +kernel)]
    rw [cn_ck (k := 7) hx hv tx6_3.vp rfl rfl (by decide +kernel)]
    rw [cn_ck (k := 8) hx hv tx4_4.vp rfl rfl (by decide +kernel)]
    rw [cn_ck (k := 9) hx hv tx4_5.vp rfl rfl (by decide +kernel)]
    rw [cn_ck (k := 10) hx hv tx4_6.vp rfl rfl (by decide +kernel)]
    rw [cn_ck (k := 11) hx hv tx6_4.vp rfl rfl (by decide +kernel)]
    rw [hv]
    simp only [clF]
    obtain ⟨m0, h0⟩ : ∃ b, mt V x 0 = b := ⟨_, rfl⟩
    obtain ⟨m1, h1⟩ : ∃ b, mt V x 1 = b := ⟨_, rfl⟩
    obtain ⟨m2, h2⟩ : ∃ b, mt V x 2 = b := ⟨_, rfl⟩
    obtain ⟨m3, h3⟩ : ∃ b, mt V x 3 = b := ⟨_, rfl⟩
    obtain ⟨m4, h4⟩ : ∃ b, mt V x 4 = b := ⟨_, rfl⟩
    obtain ⟨m5, h5⟩ : ∃ b, mt V x 5 = b := ⟨_, rfl⟩
    obtain ⟨m6, h6⟩ : ∃ b, mt V x 6 = b := ⟨_, rfl⟩
    obtain ⟨m7, h7⟩ : ∃ b, mt V x 7 = b := ⟨_, rfl⟩
    obtain ⟨m8, h8⟩ : ∃ b, mt V x 8 = b := ⟨_, rfl⟩
    obtain ⟨m9, h9⟩ : ∃ b, mt V x 9 = b := ⟨_, rfl⟩
    obtain ⟨m10, h10⟩ : ∃ b, mt V x 10 = b := ⟨_, rfl⟩
    obtain ⟨m11, h11⟩ : ∃ b, mt V x 11 = b := ⟨_, rfl⟩
    rw [h0, h1, h2, h3, h4, h5, h6, h7, h8, h9, h10, h11]
    clear h0 h1 h2 h3 h4 h5 h6 h7 h8 h9 h10 h11
    revert m0 m1 m2 m3 m4 m5 m6 m7 m8 m9 m10 m11
    decide +kernel
  · rw [if_neg hv]
    unfold clR
    have hv' : vR V x = false := by simpa using hv
    rw [hv']
    rfl
end Go.Proofs.YteldiggaooeeeaaGreatDoor
