/-
  Plain mathematics: bytes as a number, fields of bits as the digits of a number, there and back. No program here.
-/
namespace Go.Proofs.YteldiggaooeeeaaGreatDoor.M

def numB (l : List Nat) : Nat := l.foldl (fun a x => a * 256 + x) 0
def tot (ws : List Nat) : Nat := ws.foldr (fun w s => w + s) 0
def fieldsN (r N : Nat) : List Nat → List Nat
  | [] => []
  | w :: ws => (N / 2 ^ (r - w) % 2 ^ w) :: fieldsN (r - w) N ws
def packN (a : Nat) : List Nat → List Nat → Nat
  | w :: ws, v :: vs => packN (a * 2 ^ w + v) ws vs
  | _, _ => a
def bytesN : Nat → Nat → List Nat
  | 0, _ => []
  | n + 1, V => bytesN n (V / 256) ++ [V % 256]

theorem tot_nil : tot [] = 0 := rfl
theorem tot_cons (w : Nat) (ws : List Nat) : tot (w :: ws) = w + tot ws := rfl
theorem tot_append (a b : List Nat) : tot (a ++ b) = tot a + tot b := by
  induction a with
  | nil => simp [tot]
  | cons w ws ih => rw [List.cons_append, tot_cons, tot_cons, ih]; omega
theorem tot_take_le (ws : List Nat) (i : Nat) : tot (ws.take i) ≤ tot ws := by
  have h := tot_append (ws.take i) (ws.drop i)
  rw [List.take_append_drop] at h
  omega
theorem tot_take_succ (ws : List Nat) (i : Nat) (h : i < ws.length) : tot (ws.take (i + 1)) = tot (ws.take i) + ws[i] := by
  rw [List.take_succ_eq_append_getElem h, tot_append]; simp [tot]

theorem tot_le (ws : List Nat) (m : Nat) (h : ∀ x ∈ ws, x ≤ m) : tot ws ≤ m * ws.length := by
  induction ws with
  | nil => simp [tot]
  | cons w ws ih =>
    have h1 := h w (by simp)
    have h2 := ih (fun x hx => h x (by simp [hx]))
    rw [tot_cons, List.length_cons, Nat.mul_add]
    omega

theorem numB_append (a : List Nat) (x : Nat) : numB (a ++ [x]) = numB a * 256 + x := by simp [numB]
theorem numB_take_succ (l : List Nat) (i : Nat) (h : i < l.length) : numB (l.take (i + 1)) = numB (l.take i) * 256 + l[i] := by
  rw [List.take_succ_eq_append_getElem h, numB_append]
theorem numB_lt (l : List Nat) (h : ∀ x ∈ l, x < 256) : numB l < 256 ^ l.length := by
  have key : ∀ n, n ≤ l.length → numB (l.take n) < 256 ^ n := by
    intro n
    induction n with
    | zero => intro _; simp [numB]
    | succ n ih =>
      intro hn
      rw [numB_take_succ l n (by omega)]
      have h1 := ih (by omega)
      have h2 := h l[n] (List.getElem_mem _)
      rw [Nat.pow_succ]
      omega
  have := key l.length (Nat.le_refl _)
  rwa [List.take_length] at this
/-- the first k bytes are the number's upper part -/
theorem numB_take (l : List Nat) (h : ∀ x ∈ l, x < 256) (k : Nat) (hk : k ≤ l.length) : numB (l.take k) = numB l / 256 ^ (l.length - k) := by
  have key : ∀ j, j ≤ l.length → numB (l.take (l.length - j)) = numB l / 256 ^ j := by
    intro j
    induction j with
    | zero => intro _; simp
    | succ j ih =>
      intro hj
      have h1 := ih (by omega)
      have e : l.length - j = (l.length - (j + 1)) + 1 := by omega
      rw [e, numB_take_succ l _ (by omega)] at h1
      have h2 := h l[l.length - (j + 1)] (List.getElem_mem _)
      rw [Nat.pow_succ, ← Nat.div_div_eq_div_mul, ← h1]
      omega
  have := key (l.length - k) (by omega)
  rwa [show l.length - (l.length - k) = k by omega] at this

theorem numB_bytesN (n V : Nat) : numB (bytesN n V) = V % 256 ^ n := by
  induction n generalizing V with
  | zero => simp [bytesN, numB, Nat.mod_one]
  | succ n ih =>
    rw [bytesN, numB_append, ih, Nat.pow_succ, Nat.mul_comm (256 ^ n) 256, Nat.mod_mul]
    omega
theorem length_bytesN (n V : Nat) : (bytesN n V).length = n := by
  induction n generalizing V with
  | zero => rfl
  | succ n ih => simp [bytesN, ih]
theorem bytesN_lt (n V : Nat) : ∀ x ∈ bytesN n V, x < 256 := by
  induction n generalizing V with
  | zero => simp [bytesN]
  | succ n ih =>
    intro x hx
    rw [bytesN, List.mem_append] at hx
    rcases hx with hx | hx
    · exact ih _ x hx
    · simp at hx; omega
theorem bytesN_numB (l : List Nat) (h : ∀ x ∈ l, x < 256) : bytesN l.length (numB l) = l := by
  have key : ∀ n, n ≤ l.length → bytesN n (numB (l.take n)) = l.take n := by
    intro n
    induction n with
    | zero => intro _; simp [bytesN]
    | succ n ih =>
      intro hn
      have h2 := h l[n] (List.getElem_mem _)
      have e1 : (numB (l.take n) * 256 + l[n]) / 256 = numB (l.take n) := by omega
      have e2 : (numB (l.take n) * 256 + l[n]) % 256 = l[n] := by omega
      rw [numB_take_succ l n (by omega), bytesN, e1, e2, ih (by omega), List.take_succ_eq_append_getElem (by omega)]
  have := key l.length (Nat.le_refl _)
  rwa [List.take_length] at this
theorem bytesN_succ_front (n V : Nat) : bytesN (n + 1) V = bytesN n (V / 256) ++ [V % 256] := rfl
/-- the bytes of a number that another is the upper part of -/
theorem bytesN_mod (n V : Nat) : bytesN n (V % 256 ^ n) = bytesN n V := by
  induction n generalizing V with
  | zero => rfl
  | succ n ih =>
    rw [bytesN, bytesN, Nat.pow_succ, Nat.mul_comm, Nat.mod_mul_right_div_self, ih]
    congr 2
    rw [Nat.mod_mul_right_mod]

theorem length_fieldsN (r N : Nat) (ws : List Nat) : (fieldsN r N ws).length = ws.length := by
  induction ws generalizing r with
  | nil => rfl
  | cons w ws ih => simp [fieldsN, ih]
/-- the i-th field, without the recursion -/
theorem fieldsN_get (r N : Nat) (ws : List Nat) (i : Nat) (h : i < ws.length) (hr : tot ws ≤ r) :
    (fieldsN r N ws)[i]'(by rw [length_fieldsN]; exact h) = N / 2 ^ (r - tot (ws.take (i + 1))) % 2 ^ ws[i] := by
  induction ws generalizing r i with
  | nil => simp at h
  | cons w ws ih =>
    rw [tot_cons] at hr
    cases i with
    | zero => simp [fieldsN, tot]
    | succ i =>
      simp only [fieldsN, List.getElem_cons_succ, List.take_succ_cons, tot_cons]
      rw [ih (r - w) i (by simpa using h) (by omega), Nat.sub_sub]

theorem packN_mod (a N : Nat) (ws : List Nat) (r : Nat) (hr : r = tot ws) : packN a ws (fieldsN r N ws) = a * 2 ^ r + N % 2 ^ r := by
  induction ws generalizing a r with
  | nil => subst hr; simp [packN, tot, Nat.mod_one]
  | cons w ws ih =>
    rw [tot_cons] at hr
    rw [fieldsN, packN, ih _ (r - w) (by omega)]
    have e : r = (r - w) + w := by omega
    have hm : N % 2 ^ r = N % 2 ^ (r - w) + 2 ^ (r - w) * (N / 2 ^ (r - w) % 2 ^ w) := by
      conv => lhs; rw [e, Nat.pow_add]
      exact Nat.mod_mul
    have hp : 2 ^ r = 2 ^ w * 2 ^ (r - w) := by
      conv => lhs; rw [e, Nat.pow_add]
      exact Nat.mul_comm _ _
    rw [hm, hp, Nat.add_mul, Nat.mul_assoc, Nat.mul_comm (N / 2 ^ (r - w) % 2 ^ w)]
    omega
theorem fieldsN_fit (r N : Nat) (ws : List Nat) (i : Nat) (h : i < ws.length) (hr : tot ws ≤ r) : (fieldsN r N ws)[i]'(by rw [length_fieldsN]; exact h) < 2 ^ ws[i] := by
  rw [fieldsN_get r N ws i h hr]
  exact Nat.mod_lt _ (Nat.two_pow_pos _)

/-- 'vs' fit the widths -/
def Fit : List Nat → List Nat → Prop
  | [], [] => True
  | w :: ws, v :: vs => v < 2 ^ w ∧ Fit ws vs
  | _, _ => False
theorem fit_fieldsN (r N : Nat) (ws : List Nat) : Fit ws (fieldsN r N ws) := by
  induction ws generalizing r with
  | nil => simp [fieldsN, Fit]
  | cons w ws ih => exact ⟨Nat.mod_lt _ (Nat.two_pow_pos _), ih _⟩
theorem packN_split (a : Nat) (ws vs : List Nat) (h : Fit ws vs) : ∃ X, X < 2 ^ tot ws ∧ packN a ws vs = a * 2 ^ tot ws + X := by
  induction ws generalizing a vs with
  | nil =>
    cases vs with
    | nil => exact ⟨0, by simp [tot], by simp [packN, tot]⟩
    | cons v vs => exact absurd h (by simp [Fit])
  | cons w ws ih =>
    cases vs with
    | nil => exact absurd h (by simp [Fit])
    | cons v vs =>
      obtain ⟨h1, h2⟩ := h
      obtain ⟨X, hX, e⟩ := ih (a * 2 ^ w + v) vs h2
      refine ⟨v * 2 ^ tot ws + X, ?_, ?_⟩
      · rw [tot_cons, Nat.pow_add]
        have : (v + 1) * 2 ^ tot ws ≤ 2 ^ w * 2 ^ tot ws := Nat.mul_le_mul_right _ h1
        rw [Nat.add_mul] at this
        omega
      · rw [packN, e, tot_cons, Nat.pow_add, Nat.add_mul, Nat.mul_assoc]
        omega
theorem fieldsN_packN (a : Nat) (ws vs : List Nat) (h : Fit ws vs) : fieldsN (tot ws) (packN a ws vs) ws = vs := by
  induction ws generalizing a vs with
  | nil =>
    cases vs with
    | nil => rfl
    | cons v vs => exact absurd h (by simp [Fit])
  | cons w ws ih =>
    cases vs with
    | nil => exact absurd h (by simp [Fit])
    | cons v vs =>
      obtain ⟨h1, h2⟩ := h
      obtain ⟨X, hX, e⟩ := packN_split (a * 2 ^ w + v) ws vs h2
      rw [fieldsN, tot_cons, show w + tot ws - w = tot ws by omega, packN, ih _ _ h2, e]
      congr 1
      rw [Nat.mul_comm, Nat.mul_add_div (Nat.two_pow_pos _), Nat.div_eq_of_lt hX, Nat.add_zero, Nat.mul_comm, Nat.mul_add_mod]
      exact Nat.mod_eq_of_lt h1
end Go.Proofs.YteldiggaooeeeaaGreatDoor.M
