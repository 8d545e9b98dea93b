/-
  The builder's calls: fits, write.
-/
import Derived.Test.YtcgfdhmegagjdaaBuilder
namespace Go.Proofs.Ytcgfdhmegagjdaa
open Go.RowKit

set_option maxHeartbeats 400000 in
theorem fits_arg (n v : Int) (w : World) (h : n < 1 ∨ 8 < n) : Calls Try.prog 32 #[.int .i64 n, .int .u64 v] w fun e w' => e = .returned (.int .i64 1) ∧ w = w' := by
  by_cases h0 : n < 1
  · go_enter Try.func32, Try.ntmps32
    go_wp2
    go_ret
    exact ⟨rfl, rfl⟩
  · have h1 : 8 < n := by omega
    go_enter Try.func32, Try.ntmps32
    go_wp2
    go_ret
    exact ⟨rfl, rfl⟩
theorem pow_two (n : Nat) : 256 ^ n = 2 ^ (8 * n) := by rw [Nat.pow_mul]
set_option maxHeartbeats 400000 in
theorem fits_ok (n v : Nat) (w : World) (h1 : 1 ≤ n) (h8 : n ≤ 8) (hv : v < 256 ^ n) : Calls Try.prog 32 #[.int .i64 n, .int .u64 v] w fun e w' => e = .returned (.int .i64 0) ∧ w = w' := by
  have hd : ((v : Int) / 2 ^ (8 * n) != 0) = false := by
    have e : (v : Int) / 2 ^ (8 * n) = ((v / 2 ^ (8 * n) : Nat) : Int) := by push_cast; rfl
    rw [e, ← pow_two, Nat.div_eq_of_lt hv]
    rfl
  clear hv
  go_enter Try.func32, Try.ntmps32
  go_wp2
  go_ret
  exact ⟨rfl, rfl⟩
set_option maxHeartbeats 400000 in
theorem fits_val (n v : Nat) (w : World) (h1 : 1 ≤ n) (h8 : n ≤ 8) (hv : 256 ^ n ≤ v) : Calls Try.prog 32 #[.int .i64 n, .int .u64 v] w fun e w' => e = .returned (.int .i64 12) ∧ w = w' := by
  have hd : ((v : Int) / 2 ^ (8 * n) != 0) = true := by
    have e : (v : Int) / 2 ^ (8 * n) = ((v / 2 ^ (8 * n) : Nat) : Int) := by push_cast; rfl
    have : 0 < v / 256 ^ n := Nat.div_pos hv (Nat.pow_pos (by decide))
    rw [e, ← pow_two, bne_iff_ne]
    omega
  clear hv
  go_enter Try.func32, Try.ntmps32
  go_wp2
  go_ret
  exact ⟨rfl, rfl⟩

/-- the world behind k rounds of write -/
def wrt (w : World) (g off n v : Nat) : Nat → World
  | 0 => w
  | k + 1 => (wrt w g off n v k).setCell ⟨g, off + (n - 1 - k), none⟩ (.int .u8 ((v / 256 ^ k % 256 : Nat) : Int))
/-- the n bytes of a number -/
def byN (n v : Nat) : List Nat := (List.range n).map (fun i => v / 256 ^ (n - 1 - i) % 256)
theorem byN_len (n v : Nat) : (byN n v).length = n := by simp [byN]
theorem byN_lt (n v : Nat) : ∀ x ∈ byN n v, x < 256 := by
  intro x hx
  simp only [byN, List.mem_map, List.mem_range] at hx
  obtain ⟨i, _, rfl⟩ := hx
  exact Nat.mod_lt _ (by decide)
theorem wrt_fz (w : World) (g off n v k : Nat) (a : Addr) : (wrt w g off n v k).frozen? a = w.frozen? a := by
  induction k with
  | zero => rfl
  | succ k ih => rw [wrt, World.frozen?_setCell]; exact ih
theorem wrt_size (w : World) (g off n v k : Nat) : (wrt w g off n v k).heap.size = w.heap.size := by
  induction k with
  | zero => rfl
  | succ k ih => rw [wrt]; simpa using ih
theorem wrt_ch (w : World) (g off n v k : Nat) : Ch (fun x => x = g) w (wrt w g off n v k) := by
  induction k with
  | zero => exact Ch.refl _ _
  | succ k ih => exact ih.set _ _ rfl
/-- a cell of the row that is not yet written -/
theorem wrt_old (w : World) (g off n v k i : Nat) (hk : k ≤ n) (hi : i < n - k ∨ n ≤ i) : (wrt w g off n v k).cell? ⟨g, off + i, none⟩ = w.cell? ⟨g, off + i, none⟩ := by
  induction k with
  | zero => rfl
  | succ k ih =>
    rw [wrt, World.cell?_setCell_other _ _ _ _ (by simp only [ne_eq, Addr.mk.injEq, true_and, and_true]; omega)]
    exact ih (by omega) (by omega)
theorem wrt_new (w : World) (g off n v k i : Nat) (hk : k ≤ n) (hi : n - k ≤ i) (hn : i < n) (h : ∀ i, i < n → ∃ x, w.cell? ⟨g, off + i, none⟩ = some x) :
    (wrt w g off n v k).cell? ⟨g, off + i, none⟩ = some (.int .u8 ((v / 256 ^ (n - 1 - i) % 256 : Nat) : Int)) := by
  induction k with
  | zero => omega
  | succ k ih =>
    rw [wrt]
    by_cases e : i = n - 1 - k
    · subst e
      obtain ⟨x, hx⟩ := h (n - 1 - k) (by omega)
      rw [← wrt_old w g off n v k (n - 1 - k) (by omega) (by omega)] at hx
      rw [World.cell?_setCell_same _ _ _ hx, show n - 1 - (n - 1 - k) = k by omega]
    · rw [World.cell?_setCell_other _ _ _ _ (by simp only [ne_eq, Addr.mk.injEq, true_and, and_true]; omega)]
      exact ih (by omega) (by omega)
theorem wrt_seg (w : World) (g off n v : Nat) (h : ∀ i, i < n → ∃ x, w.cell? ⟨g, off + i, none⟩ = some x) : Seg .u8 (wrt w g off n v n) (some ⟨g, off, none⟩) (toI (byN n v)) := by
  refine .inr ⟨g, off, rfl, fun i hi => ?_⟩
  rw [toI_len, byN_len] at hi
  rw [wrt_new w g off n v n i (Nat.le_refl _) (by omega) hi h, toI_getD]
  simp [byN, List.getD, hi]
theorem div_step (v k : Nat) : v / 256 ^ k / 256 = v / 256 ^ (k + 1) := by rw [Nat.div_div_eq_div_mul, Nat.pow_succ]
theorem u8_of (x : Nat) : IntKind.u8.wrap (x : Int) = ((x % 256 : Nat) : Int) := by rw [IntKind.wrap_u8]; omega

set_option maxHeartbeats 800000 in
theorem write_any (g off n c v : Nat) (w : World) (h : ∀ i, i < n → ∃ x, w.cell? ⟨g, off + i, none⟩ = some x) (hf : ∀ i, w.frozen? ⟨g, i, none⟩ = false) (hn : n ≤ 8) :
    Calls Try.prog 33 #[.slice (some ⟨g, off, none⟩) n c, .int .u64 v] w fun e w' => e = .returned (.tuple #[]) ∧ w' = wrt w g off n v n := by
  go_enter Try.func33, Try.ntmps33
  go_wp2
  go_loopw [1, 4] (fun x ix wr => ∃ k : Nat, k ≤ n ∧ ix = .int .i64 ((n : Int) - 1 - k) ∧ x = .int .u64 ((v / 256 ^ k : Nat) : Int) ∧ wr = wrt w g off n v k) (fun _ ix _ => (intOf ix + 1).toNat)
  case atStart => exact ⟨0, Nat.zero_le _, by simp, by simp, rfl⟩
  case round =>
    obtain ⟨k, hk, rfl, rfl, rfl⟩ := hrel
    by_cases hlt : k < n
    · obtain ⟨j, hj⟩ : ∃ j : Nat, j = n - 1 - k := ⟨_, rfl⟩
      have hji : (n : Int) - 1 - k = (j : Int) := by omega
      obtain ⟨x, hx⟩ := h j (by omega)
      have hc : (wrt w g off n v k).cell? ⟨g, off + j, none⟩ = some x := by rw [wrt_old w g off n v k j (by omega) (by omega)]; exact hx
      have hfz : (wrt w g off n v k).frozen? ⟨g, off + j, none⟩ = false := by rw [wrt_fz]; exact hf _
      have hst : wrt w g off n v (k + 1) = (wrt w g off n v k).setCell ⟨g, off + j, none⟩ (.int .u8 ((v / 256 ^ k % 256 : Nat) : Int)) := by rw [hj]; rfl
      have hjn : j < n := by omega
      obtain ⟨y, hy⟩ : ∃ y, y = v / 256 ^ k := ⟨_, rfl⟩
      have hy2 : y / 256 = v / 256 ^ (k + 1) := by rw [hy, div_step]
      have hu := u8_of y
      rw [← hy] at hst ⊢
      rw [hji]
      obtain ⟨W, hW⟩ : ∃ W, W = wrt w g off n v k := ⟨_, rfl⟩
      rw [← hW] at hst hc hfz ⊢
      have HST : Hid _ := hst
      have HY : Hid _ := hy2
      have HJ : Hid ((n : Int) - 1 - k = (j : Int)) := hji
      clear hst hW hy2 hy hj hji hx h
      go_wp2
      go_roundw
      case rel => exact ⟨k + 1, by omega, by have := HJ.out; go_num, by rw [← HY.out]; go_num, HST.out.symm⟩
      case measure => simp [intOf]
    · obtain rfl : k = n := by omega
      go_wp2
      go_end0
      exact ⟨rfl, rfl⟩
end Go.Proofs.Ytcgfdhmegagjdaa
