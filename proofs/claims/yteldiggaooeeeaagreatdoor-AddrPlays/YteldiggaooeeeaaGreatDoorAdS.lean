/-
  Layer 4: the canonical text of an address, in numbers; it is read as it was.
-/
import Derived.Test.YteldiggaooeeeaaGreatDoorAdR
namespace Go.Proofs.YteldiggaooeeeaaGreatDoor
open Go.RowKit

def hd (n : Nat) : Nat := if n < 10 then 48 + n else 87 + n
/-- a group in hexadecimal digits -/
def hexL (v : Nat) : List Nat := if v < 16 then [hd v] else if v < 256 then [hd (v / 16), hd (v % 16)] else if v < 4096 then [hd (v / 256), hd (v / 16 % 16), hd (v % 16)] else [hd (v / 4096), hd (v / 256 % 16), hd (v / 16 % 16), hd (v % 16)]
theorem hd_wth {n : Nat} (h : n < 16) : wth (hd n) = (n : Int) := by
  have : ∀ k : Fin 16, wth (hd k.val) = (k.val : Int) := by decide
  exact this ⟨n, h⟩
theorem hd_hx {n : Nat} (h : n < 16) : hxB (hd n) = true := by unfold hxB; rw [hd_wth h]; simp
theorem hexL_grp {v : Nat} (h : v < 65536) : Grp (hexL v) v := by
  unfold hexL
  split
  · exact ⟨by simp, by simp, fun d hd' => by simp at hd'; subst hd'; exact hd_hx (by omega), by simp [valH, hd_wth (show v < 16 by omega)]⟩
  · split
    · refine ⟨by simp, by simp, fun d hd' => ?_, ?_⟩
      · simp at hd'
        rcases hd' with rfl | rfl <;> exact hd_hx (by omega)
      · simp only [valH, List.foldl, hd_wth (show v / 16 < 16 by omega), hd_wth (show v % 16 < 16 by omega), Int.toNat_natCast]
        omega
    · split
      · refine ⟨by simp, by simp, fun d hd' => ?_, ?_⟩
        · simp at hd'
          rcases hd' with rfl | rfl | rfl <;> exact hd_hx (by omega)
        · simp only [valH, List.foldl, hd_wth (show v / 256 < 16 by omega), hd_wth (show v / 16 % 16 < 16 by omega), hd_wth (show v % 16 < 16 by omega), Int.toNat_natCast]
          omega
      · refine ⟨by simp, by simp, fun d hd' => ?_, ?_⟩
        · simp at hd'
          rcases hd' with rfl | rfl | rfl | rfl <;> exact hd_hx (by omega)
        · simp only [valH, List.foldl, hd_wth (show v / 4096 < 16 by omega), hd_wth (show v / 256 % 16 < 16 by omega), hd_wth (show v / 16 % 16 < 16 by omega), hd_wth (show v % 16 < 16 by omega), Int.toNat_natCast]
          omega
/-- where the zeros end that begin at the group i -/
def zEn (x : Nat → Nat) : Nat → Nat → Nat
  | 0, i => i
  | n + 1, i => if gx x i = 0 then zEn x n (i + 1) else i
def zE (x : Nat → Nat) (i : Nat) : Nat := zEn x (8 - i) i
theorem zEn_at (x : Nat → Nat) : ∀ n i, i ≤ zEn x n i ∧ zEn x n i ≤ i + n ∧ ∀ k, i ≤ k → k < zEn x n i → gx x k = 0
  | 0, i => ⟨Nat.le_refl _, Nat.le_refl _, fun k h1 h2 => by have : zEn x 0 i = i := rfl; omega⟩
  | n + 1, i => by
    unfold zEn
    split
    · rename_i h
      obtain ⟨a, b, c⟩ := zEn_at x n (i + 1)
      refine ⟨by omega, by omega, fun k h1 h2 => ?_⟩
      by_cases hk : k = i
      · rw [hk]; exact h
      · exact c k (by omega) h2
    · exact ⟨Nat.le_refl _, by omega, fun k h1 h2 => by omega⟩
theorem zE_step {x : Nat → Nat} {i : Nat} (h : i < 8) (h0 : gx x i = 0) : zE x i = zE x (i + 1) := by
  unfold zE
  rw [show 8 - i = 8 - (i + 1) + 1 by omega]
  conv => lhs; unfold zEn
  rw [if_pos h0]
theorem zE_stop {x : Nat → Nat} {i : Nat} (h : i < 8) (h0 : gx x i ≠ 0) : zE x i = i := by
  unfold zE
  rw [show 8 - i = 8 - (i + 1) + 1 by omega]
  conv => lhs; unfold zEn
  rw [if_neg h0]
theorem zE_end (x : Nat → Nat) {i : Nat} (h : 8 ≤ i) : zE x i = i := by
  unfold zE
  rw [show 8 - i = 0 by omega]
  rfl
/-- the longest run of zeros ahead of the group n, of several the first -/
def lzN (x : Nat → Nat) : Nat → Nat × Nat
  | 0 => (0, 0)
  | i + 1 => if (lzN x i).2 - (lzN x i).1 < zE x i - i then (i, zE x i) else lzN x i
theorem lzN_at (x : Nat → Nat) : ∀ n, n ≤ 8 → (lzN x n).1 ≤ (lzN x n).2 ∧ (lzN x n).2 ≤ 8 ∧ ∀ k, (lzN x n).1 ≤ k → k < (lzN x n).2 → gx x k = 0
  | 0, _ => ⟨Nat.le_refl _, Nat.zero_le _, fun k h1 h2 => by have : (lzN x 0).2 = 0 := rfl; omega⟩
  | n + 1, hn => by
    unfold lzN
    split
    · obtain ⟨a, b, c⟩ := zEn_at x (8 - n) n
      exact ⟨a, by show zEn x (8 - n) n ≤ 8; omega, c⟩
    · exact lzN_at x n (by omega)
/-- ten bytes zero, two ff -/
def mpB (x : Nat → Nat) : Bool := same16 (hdA x 96) (fun i => if i = 10 ∨ i = 11 then 255 else 0)
/-- the canonical text -/
def prG (x : Nat → Nat) : List Nat := txt (fun k => hexL (gx x k)) x (if (lzN x 8).2 - (lzN x 8).1 < 2 then 0 else (lzN x 8).1) (if (lzN x 8).2 - (lzN x 8).1 < 2 then 0 else (lzN x 8).2) false
def prIP (V : Int) (x : Nat → Nat) : List Nat := if V = 4 then dots (x 0) (x 1) (x 2) (x 3) else if mpB x then [58, 58, 102, 102, 102, 102, 58] ++ dots (x 12) (x 13) (x 14) (x 15) else prG x
theorem gx_lt {x : Nat → Nat} (hx : ∀ k, k < 16 → x k < 256) {k : Nat} (h : k < 8) : gx x k < 65536 := by
  have h1 := hx (2 * k) (by omega)
  have h2 := hx (2 * k + 1) (by omega)
  unfold gx
  omega
theorem gx_zero {x : Nat → Nat} {k : Nat} (h : gx x k = 0) : x (2 * k) = 0 ∧ x (2 * k + 1) = 0 := by unfold gx at h; omega
theorem dots_no {a b c d : Nat} (ha : a < 256) (hb : b < 256) (hc : c < 256) (hd : d < 256) {y : Nat} (h : y ∈ dots a b c d) : dgB y = true ∨ y = 46 := by
  unfold dots at h
  simp only [List.mem_append, List.mem_cons] at h
  rcases h with h | h | h | h | h | h | h
  · exact .inl (dec3_dg ha y h)
  · exact .inr h
  · exact .inl (dec3_dg hb y h)
  · exact .inr h
  · exact .inl (dec3_dg hc y h)
  · exact .inr h
  · exact .inl (dec3_dg hd y h)
theorem drp_mem {s : ByteArray} {i : Nat} (h : i < s.size) : sB s i ∈ drp s 0 := by
  have hlt : i < s.data.toList.length := h
  refine List.mem_iff_getElem?.2 ⟨i, ?_⟩
  unfold drp sB
  rw [List.drop_zero, List.getElem?_map, List.getD_eq_getElem?_getD, List.getElem?_eq_getElem hlt]
  rfl
theorem parse_four {s : ByteArray} {a b c d : Nat} (ha : a < 256) (hb : b < 256) (hc : c < 256) (hd : d < 256) (h : drp s 0 = dots a b c d) : pIP s = .inl (4, fun i => [a, b, c, d].getD i 0) := by
  have hl := drp_len s 0
  have hh := dots_hi a b c d
  rw [h] at hl
  have hs : hsB s 58 = false := hsB_false (fun i hi e => by
    have h1 := drp_mem hi
    rw [h, e] at h1
    rcases dots_no ha hb hc hd h1 with h2 | h2
    · cases h2
    · cases h2)
  unfold pIP
  rw [if_neg (by omega), hs, if_neg (by decide), dtd_dots ha hb hc hd h]
theorem vld_four {V : Int} {x : Nat → Nat} (h4 : V = 4) (h : vld V x = true) : ∀ k, 4 ≤ k → k < 16 → x k = 0 := by
  subst h4
  have h1 : same16 (hdA x 32) x = true := by simpa [vld] using h
  intro k hk hk2
  have h2 := (same16_iff _ _).1 h1 k hk2
  unfold hdA at h2
  rw [if_neg (by omega)] at h2
  have : mkA 32 k = 0 := by unfold mkA; rw [show 32 - 8 * k = 0 by omega]
  rw [this, Nat.and_zero] at h2
  exact h2.symm
theorem vld_six {V : Int} {x : Nat → Nat} (h4 : V ≠ 4) (h : vld V x = true) : V = 6 := by
  unfold vld at h
  simp at h
  rcases h with h | h
  · exact h
  · exact absurd h.1 h4
theorem mp_at {x : Nat → Nat} (h : mpB x = true) : (∀ k, k < 10 → x k = 0) ∧ x 10 = 255 ∧ x 11 = 255 := by
  have h1 := (same16_iff _ _).1 h
  have h2 : ∀ k, k < 12 → x k = if k = 10 ∨ k = 11 then 255 else 0 := fun k hk => by
    have h3 := h1 k (by omega)
    unfold hdA at h3
    rw [if_pos (by omega)] at h3
    exact h3
  refine ⟨fun k hk => by rw [h2 k (by omega), if_neg (by omega)], by rw [h2 10 (by omega)]; rfl, by rw [h2 11 (by omega)]; rfl⟩
end Go.Proofs.YteldiggaooeeeaaGreatDoor
