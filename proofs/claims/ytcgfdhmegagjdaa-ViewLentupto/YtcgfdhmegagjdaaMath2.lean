/-
  Plain mathematics: single bits of bytes, of numbers.
-/
import Derived.Test.YtcgfdhmegagjdaaMath
namespace Go.Proofs.Ytcgfdhmegagjdaa.M

/-- the i-th bit of bytes, the highest of the first byte being number 0 -/
def bitB (bs : List Nat) (i : Nat) : Nat := bs.getD (i / 8) 0 / 2 ^ (7 - i % 8) % 2

theorem mod_bit (X k : Nat) : X / 2 % 2 ^ k * 2 + X % 2 = X % 2 ^ (k + 1) := by
  rw [Nat.pow_succ, Nat.mul_comm (2 ^ k) 2, Nat.mod_mul]
  omega
theorem byte_of (cs : List Nat) (h : ∀ x ∈ cs, x < 256) (k : Nat) (hk : k < cs.length) : cs[k] = numB cs / 256 ^ (cs.length - (k + 1)) % 256 := by
  have h1 := numB_take cs h (k + 1) (by omega)
  rw [← h1, numB_take_succ cs k hk]
  have := h cs[k] (List.getElem_mem _)
  omega
theorem bit_num (cs : List Nat) (h : ∀ x ∈ cs, x < 256) (j : Nat) (hj : j < 8 * cs.length) : bitB cs j = numB cs / 2 ^ (8 * cs.length - 1 - j) % 2 := by
  have hk : j / 8 < cs.length := by omega
  unfold bitB
  have e : cs.getD (j / 8) 0 = cs[j / 8] := by simp [List.getD, hk]
  rw [e, byte_of cs h _ hk]
  generalize hX : numB cs / 256 ^ (cs.length - (j / 8 + 1)) = X
  have e1 : X % 256 / 2 ^ (7 - j % 8) % 2 = X / 2 ^ (7 - j % 8) % 2 := by
    have e2 : (256 : Nat) = 2 ^ (7 - j % 8) * 2 ^ (j % 8 + 1) := by
      rw [← Nat.pow_add, show 7 - j % 8 + (j % 8 + 1) = 8 by omega]
    rw [e2, Nat.mod_mul_right_div_self]
    exact Nat.mod_mod_of_dvd _ ⟨2 ^ (j % 8), by rw [Nat.pow_succ, Nat.mul_comm]⟩
  rw [e1, ← hX, Nat.div_div_eq_div_mul]
  congr 2
  rw [show (256 : Nat) = 2 ^ 8 by rfl, ← Nat.pow_mul, ← Nat.pow_add]
  congr 1
  omega
/-- bits of a part -/
theorem bit_part (bs : List Nat) (a n j : Nat) (hj : j < 8 * n) : bitB bs (8 * a + j) = bitB ((bs.drop a).take n) j := by
  unfold bitB
  have e1 : (8 * a + j) / 8 = a + j / 8 := by omega
  have e2 : (8 * a + j) % 8 = j % 8 := by omega
  have h1 : j / 8 < n := by omega
  rw [e1, e2]
  congr 2
  simp [List.getD, h1]
/-- the bits of a part, gathered: from bit s on, k of them -/
def gath (N T s k : Nat) : Nat := N / 2 ^ (T - s - k) % 2 ^ k
theorem gath_zero (N T s : Nat) : gath N T s 0 = 0 := by simp [gath, Nat.mod_one]
theorem gath_succ (cs : List Nat) (h : ∀ x ∈ cs, x < 256) (s k : Nat) (hk : s + k < 8 * cs.length) :
    2 * gath (numB cs) (8 * cs.length) s k + bitB cs (s + k) = gath (numB cs) (8 * cs.length) s (k + 1) := by
  unfold gath
  rw [bit_num cs h (s + k) hk, ← mod_bit (numB cs / 2 ^ (8 * cs.length - s - (k + 1))) k, Nat.div_div_eq_div_mul]
  have e1 : (2 : Nat) ^ (8 * cs.length - s - (k + 1)) * 2 = 2 ^ (8 * cs.length - s - k) := by
    rw [← Nat.pow_succ]; congr 1; omega
  have e2 : 8 * cs.length - 1 - (s + k) = 8 * cs.length - s - (k + 1) := by omega
  rw [e1, e2]
  omega
theorem gath_full (cs : List Nat) (h : ∀ x ∈ cs, x < 256) : gath (numB cs) (8 * cs.length) 0 (8 * cs.length) = numB cs := by
  have := numB_lt cs h
  have e : (2 : Nat) ^ (8 * cs.length) = 256 ^ cs.length := by rw [Nat.pow_mul]
  unfold gath
  rw [Nat.sub_zero, Nat.sub_self, Nat.pow_zero, Nat.div_one, e, Nat.mod_eq_of_lt this]
theorem gath_field (N : Nat) (ws : List Nat) (i : Nat) (h : i < ws.length) :
    gath N (tot ws) (tot (ws.take i)) ws[i] = (fieldsN (tot ws) N ws)[i]'(by rw [length_fieldsN]; exact h) := by
  rw [fieldsN_get _ _ _ _ h (Nat.le_refl _), gath, tot_take_succ ws i h, Nat.sub_sub]
theorem gath_lt (N T s k : Nat) : gath N T s k < 2 ^ k := Nat.mod_lt _ (Nat.two_pow_pos _)

/-- a number as a row of bits -/
def rowN : Nat → Nat → List Nat
  | 0, _ => []
  | n + 1, X => rowN n (X / 2) ++ [X % 2]
theorem length_rowN (n X : Nat) : (rowN n X).length = n := by
  induction n generalizing X with
  | zero => rfl
  | succ n ih => simp [rowN, ih]
theorem rowN_snoc (n X b : Nat) (hb : b < 2) : rowN (n + 1) (X * 2 + b) = rowN n X ++ [b] := by
  rw [rowN, show (X * 2 + b) / 2 = X by omega, show (X * 2 + b) % 2 = b by omega]
theorem rowN_get (n X j : Nat) (h : j < n) : (rowN n X)[j]'(by rw [length_rowN]; exact h) = X / 2 ^ (n - 1 - j) % 2 := by
  induction n generalizing X with
  | zero => omega
  | succ n ih =>
    by_cases e : j = n
    · subst e
      simp only [rowN]
      rw [List.getElem_append_right (by rw [length_rowN]; exact Nat.le_refl _)]
      simp [length_rowN]
    · simp only [rowN]
      rw [List.getElem_append_left (by rw [length_rowN]; omega), ih _ (by omega), Nat.div_div_eq_div_mul]
      congr 2
      rw [Nat.mul_comm, ← Nat.pow_succ]
      congr 1
      omega
theorem gathV_succ (V T s k : Nat) (hk : s + k < T) : 2 * gath V T s k + V / 2 ^ (T - 1 - (s + k)) % 2 = gath V T s (k + 1) := by
  unfold gath
  rw [← mod_bit (V / 2 ^ (T - s - (k + 1))) k, Nat.div_div_eq_div_mul]
  have e1 : (2 : Nat) ^ (T - s - (k + 1)) * 2 = 2 ^ (T - s - k) := by
    rw [← Nat.pow_succ]; congr 1; omega
  have e2 : T - 1 - (s + k) = T - s - (k + 1) := by omega
  rw [e1, e2]
  omega
theorem bytesN_next (n m V : Nat) (h : m < n) : bytesN m (V / 256 ^ (n - m)) ++ [gath V (8 * n) (8 * m) 8] = bytesN (m + 1) (V / 256 ^ (n - (m + 1))) := by
  rw [bytesN, Nat.div_div_eq_div_mul, ← Nat.pow_succ, show (n - (m + 1)).succ = n - m by omega]
  congr 2
  unfold gath
  rw [show (256 : Nat) ^ (n - (m + 1)) = 2 ^ (8 * n - 8 * m - 8) by rw [show (256 : Nat) = 2 ^ 8 by rfl, ← Nat.pow_mul]; congr 1; omega]
end Go.Proofs.Ytcgfdhmegagjdaa.M
