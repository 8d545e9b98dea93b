/-
  The arithmetic of sums: bytes read as words, a number folded.
-/
import Derived.Test.YtfoeepbndfnifaaDoorProg
namespace Go.Proofs.YtfoeepbndfnifaaDoor.S

/-- what bytes add up to, read as words; o: the first of them is the lower half of a word -/
def wv : Bool → List Nat → Nat
  | _, [] => 0
  | false, a :: l => 256 * a + wv true l
  | true, a :: l => a + wv false l
/-- is the next byte the lower half of a word, behind n more? -/
def par (o : Bool) (n : Nat) : Bool := if n % 2 = 1 then !o else o
theorem par_succ (o : Bool) (n : Nat) : par o (n + 1) = par (!o) n := by
  unfold par
  have h : n % 2 = 0 ∨ n % 2 = 1 := by omega
  rcases h with h | h
  · rw [if_pos (by omega), if_neg (by omega)]
  · rw [if_neg (by omega), if_pos (by omega)]; simp
theorem par_add (o : Bool) (n m : Nat) : par o (n + m) = par (par o n) m := by
  unfold par
  have h : n % 2 = 0 ∨ n % 2 = 1 := by omega
  have h2 : m % 2 = 0 ∨ m % 2 = 1 := by omega
  rcases h with h | h <;> rcases h2 with h2 | h2 <;> simp [h, h2, Nat.add_mod]
theorem wv_cons (o : Bool) (a : Nat) (l : List Nat) : wv o (a :: l) = (if o then a else 256 * a) + wv (!o) l := by cases o <;> rfl
theorem wv_nil (o : Bool) : wv o [] = 0 := by cases o <;> rfl
theorem wv_append (o : Bool) (l m : List Nat) : wv o (l ++ m) = wv o l + wv (par o l.length) m := by
  induction l generalizing o with
  | nil => simp [wv_nil, par]
  | cons a l ih => rw [List.cons_append, wv_cons, wv_cons, ih, List.length_cons, par_succ]; omega
theorem wv_le (o : Bool) (l : List Nat) (h : ∀ x ∈ l, x < 256) : wv o l ≤ 65280 * l.length := by
  induction l generalizing o with
  | nil => simp [wv_nil]
  | cons a l ih =>
    have h1 := h a (by simp)
    have h2 := ih (!o) (fun x hx => h x (by simp [hx]))
    rw [wv_cons, List.length_cons]
    split <;> omega
theorem wv_zero (o : Bool) (l : List Nat) (h : wv o l = 0) : ∀ x ∈ l, x = 0 := by
  induction l generalizing o with
  | nil => intro x hx; cases hx
  | cons a l ih =>
    rw [wv_cons] at h
    intro x hx
    rcases List.mem_cons.1 hx with rfl | hx
    · cases o <;> simp at h <;> omega
    · exact ih (!o) (by omega) x hx
theorem wv_zeros (o : Bool) (l : List Nat) (h : ∀ x ∈ l, x = 0) : wv o l = 0 := by
  induction l generalizing o with
  | nil => exact wv_nil o
  | cons a l ih =>
    rw [wv_cons, ih (!o) (fun x hx => h x (by simp [hx])), h a (by simp)]
    simp
/-- the weight of the byte at a place -/
def wt (o : Bool) (i : Nat) : Nat := if par o i then 1 else 256
theorem wv_set (o : Bool) (l : List Nat) (i x : Nat) (h : i < l.length) : wv o (l.set i x) + wt o i * l[i] = wv o l + wt o i * x := by
  induction l generalizing o i with
  | nil => simp at h
  | cons a l ih =>
    cases i with
    | zero =>
      simp only [List.set_cons_zero, List.getElem_cons_zero, wv_cons]
      cases o <;> simp [wt, par] <;> omega
    | succ i =>
      have := ih (!o) i (by simpa using h)
      simp only [List.set_cons_succ, List.getElem_cons_succ, wv_cons]
      have e : wt o (i + 1) = wt (!o) i := by unfold wt; rw [par_succ]
      rw [e]
      omega
theorem wt_even (i : Nat) (h : i % 2 = 0) : wt false i = 256 := by simp [wt, par, h]
theorem wt_odd (i : Nat) (h : i % 2 = 1) : wt false i = 1 := by simp [wt, par, h]
/-- a word is laid at an even place -/
def putW (l : List Nat) (i n : Nat) : List Nat := (l.set i (n / 256)).set (i + 1) (n % 256)
theorem putW_len (l : List Nat) (i n : Nat) : (putW l i n).length = l.length := by simp [putW]
theorem putW_lt (l : List Nat) (i n : Nat) (hn : n < 65536) (h : ∀ x ∈ l, x < 256) : ∀ x ∈ putW l i n, x < 256 := by
  intro x hx
  unfold putW at hx
  rcases List.mem_or_eq_of_mem_set hx with hx | rfl
  · rcases List.mem_or_eq_of_mem_set hx with hx | rfl
    · exact h x hx
    · omega
  · omega
/-- the word at a place -/
def wordAt (l : List Nat) (i : Nat) : Nat := 256 * l.getD i 0 + l.getD (i + 1) 0
theorem wv_putW (l : List Nat) (i n : Nat) (h : i + 1 < l.length) (he : i % 2 = 0) : wv false (putW l i n) + wordAt l i = wv false l + n := by
  unfold putW wordAt
  have h1 := wv_set false l i (n / 256) (by omega)
  have h2 := wv_set false (l.set i (n / 256)) (i + 1) (n % 256) (by simpa using h)
  rw [wt_even i he] at h1
  rw [wt_odd (i + 1) (by omega)] at h2
  rw [List.getElem_set_ne (by omega)] at h2
  simp only [List.getD, List.getElem?_eq_getElem h, List.getElem?_eq_getElem (show i < l.length by omega), Option.getD_some]
  omega
theorem putW_at (l : List Nat) (i n : Nat) (h : i + 1 < l.length) : wordAt (putW l i n) i = n := by
  unfold putW wordAt
  simp [List.getD, h, show i < l.length by omega]
  omega

/-- a number folded -/
def fold (n : Nat) : Nat := if n = 0 then 0 else (n - 1) % 65535 + 1
theorem fold_le (n : Nat) : fold n ≤ 65535 := by unfold fold; split <;> omega
theorem fold_small (n : Nat) (h : n ≤ 65535) : fold n = n := by unfold fold; split <;> omega
theorem fold_mod (n : Nat) : fold n % 65535 = n % 65535 := by unfold fold; split <;> omega
theorem fold_zero (n : Nat) : fold n = 0 ↔ n = 0 := by unfold fold; split <;> omega
theorem fold_eq (a b : Nat) (h : a % 65535 = b % 65535) (hz : a = 0 ↔ b = 0) : fold a = fold b := by
  unfold fold
  by_cases h0 : a = 0
  · rw [if_pos h0, if_pos (hz.1 h0)]
  · rw [if_neg h0, if_neg (fun e => h0 (hz.2 e))]
    omega
theorem fold_step (n : Nat) (h : 65535 < n) : fold (n % 65536 + n / 65536) = fold n := fold_eq _ _ (by omega) (by omega)
theorem fold_full (n : Nat) : fold n = 65535 ↔ n ≠ 0 ∧ n % 65535 = 0 := by unfold fold; split <;> omega
/-- own sum: what is laid in makes the whole good -/
theorem own_good (V : Nat) : fold (V + (65535 - fold V)) = 65535 := by
  rw [fold_full]
  have h1 := fold_le V
  have h2 := fold_mod V
  have h3 := fold_zero V
  omega

/-- the halves of a word exchanged -/
def xch (s : Nat) : Nat := s / 256 + s % 256 * 256
theorem xch_fold (a b : Nat) (h : a % 65535 = 256 * b % 65535) (hz : a = 0 ↔ b = 0) : fold a = xch (fold b) := by
  have h1 := fold_le b
  have h2 := fold_mod b
  have h3 := fold_zero b
  have h4 := fold_le a
  have h5 := fold_mod a
  have h6 := fold_zero a
  unfold xch
  by_cases h0 : b = 0
  · have := h3.2 h0; have := h6.2 (hz.2 h0); omega
  · have h7 : fold b ≠ 0 := fun e => h0 (h3.1 e)
    have h8 : fold a ≠ 0 := fun e => h0 (hz.1 (h6.1 e))
    omega
theorem wv_xch (l : List Nat) : wv true l % 65535 = 256 * wv false l % 65535 := by
  suffices h : wv true l % 65535 = 256 * wv false l % 65535 ∧ wv false l % 65535 = 256 * wv true l % 65535 from h.1
  induction l with
  | nil => simp [wv]
  | cons a l ih => simp only [wv]; omega

/-- a sum turned along -/
def fix1 (c o n : Nat) : Nat := 65535 - fold (65535 - c + (65535 - o) + n)
theorem fix1_le (c o n : Nat) : fix1 c o n ≤ 65535 := by unfold fix1; omega
def fixB : Nat → List Nat → List Nat → Nat
  | c, a :: a' :: l, b :: b' :: m => fixB (fix1 c (256 * a + a') (256 * b + b')) l m
  | c, [a], [b] => fix1 c (256 * a) (256 * b)
  | c, _, _ => c
end Go.Proofs.YtfoeepbndfnifaaDoor.S
