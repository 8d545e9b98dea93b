/-
  Math Base PSmall POwn PSplit Mix Line, one behind the other.
-/
import Derived.Test.YthknkfggpdhdbaaProg
import Derived.WalkKit
import Derived.WalkSpells
import Derived.WalkLawsBesides
import Derived.Laws.OwnMore
import Derived.Laws.AppendOwn
import Derived.Laws.AppendOwnNone
import Derived.ArgAppend
import Derived.Maps.AppendAt
import Derived.Deep.DeepAppendRoom
import Derived.BigQuiet
import Derived.Deep.DeepCutAuto
namespace Go.Proofs.Ythknkfggpdhdbaa.M

def numB (l : List Nat) : Nat := l.foldl (fun a x => a * 256 + x) 0
def tot (ws : List Nat) : Nat := ws.foldr (fun w s => w + s) 0
def fieldsN (r N : Nat) : List Nat → List Nat
  | [] => []
  | w :: ws => (N / 2 ^ (r - w) % 2 ^ w) :: fieldsN (r - w) N ws
def packN (a : Nat) : List Nat → List Nat → Nat
  | w :: ws, v :: vs => packN (a * 2 ^ w + v) ws vs
  | _, _ => a
def bytesN : Nat → Nat → List Nat
  | 0, _ => []
  | n + 1, V => bytesN n (V / 256) ++ [V % 256]

theorem tot_nil : tot [] = 0 := rfl
theorem tot_cons (w : Nat) (ws : List Nat) : tot (w :: ws) = w + tot ws := rfl
theorem tot_append (a b : List Nat) : tot (a ++ b) = tot a + tot b := by
  induction a with
  | nil => simp [tot]
  | cons w ws ih => rw [List.cons_append, tot_cons, tot_cons, ih]; omega
theorem tot_take_le (ws : List Nat) (i : Nat) : tot (ws.take i) ≤ tot ws := by
  have h := tot_append (ws.take i) (ws.drop i)
  rw [List.take_append_drop] at h
  omega
theorem tot_take_succ (ws : List Nat) (i : Nat) (h : i < ws.length) : tot (ws.take (i + 1)) = tot (ws.take i) + ws[i] := by
  rw [List.take_succ_eq_append_getElem h, tot_append]; simp [tot]

theorem tot_le (ws : List Nat) (m : Nat) (h : ∀ x ∈ ws, x ≤ m) : tot ws ≤ m * ws.length := by
  induction ws with
  | nil => simp [tot]
  | cons w ws ih =>
    have h1 := h w (by simp)
    have h2 := ih (fun x hx => h x (by simp [hx]))
    rw [tot_cons, List.length_cons, Nat.mul_add]
    omega

theorem numB_append (a : List Nat) (x : Nat) : numB (a ++ [x]) = numB a * 256 + x := by simp [numB]
theorem numB_take_succ (l : List Nat) (i : Nat) (h : i < l.length) : numB (l.take (i + 1)) = numB (l.take i) * 256 + l[i] := by
  rw [List.take_succ_eq_append_getElem h, numB_append]
theorem numB_lt (l : List Nat) (h : ∀ x ∈ l, x < 256) : numB l < 256 ^ l.length := by
  have key : ∀ n, n ≤ l.length → numB (l.take n) < 256 ^ n := by
    intro n
    induction n with
    | zero => intro _; simp [numB]
    | succ n ih =>
      intro hn
      rw [numB_take_succ l n (by omega)]
      have h1 := ih (by omega)
      have h2 := h l[n] (List.getElem_mem _)
      rw [Nat.pow_succ]
      omega
  have := key l.length (Nat.le_refl _)
  rwa [List.take_length] at this
/-- the first k bytes are the number's upper part -/
theorem numB_take (l : List Nat) (h : ∀ x ∈ l, x < 256) (k : Nat) (hk : k ≤ l.length) : numB (l.take k) = numB l / 256 ^ (l.length - k) := by
  have key : ∀ j, j ≤ l.length → numB (l.take (l.length - j)) = numB l / 256 ^ j := by
    intro j
    induction j with
    | zero => intro _; simp
    | succ j ih =>
      intro hj
      have h1 := ih (by omega)
      have e : l.length - j = (l.length - (j + 1)) + 1 := by omega
      rw [e, numB_take_succ l _ (by omega)] at h1
      have h2 := h l[l.length - (j + 1)] (List.getElem_mem _)
      rw [Nat.pow_succ, ← Nat.div_div_eq_div_mul, ← h1]
      omega
  have := key (l.length - k) (by omega)
  rwa [show l.length - (l.length - k) = k by omega] at this

theorem numB_bytesN (n V : Nat) : numB (bytesN n V) = V % 256 ^ n := by
  induction n generalizing V with
  | zero => simp [bytesN, numB, Nat.mod_one]
  | succ n ih =>
    rw [bytesN, numB_append, ih, Nat.pow_succ, Nat.mul_comm (256 ^ n) 256, Nat.mod_mul]
    omega
theorem length_bytesN (n V : Nat) : (bytesN n V).length = n := by
  induction n generalizing V with
  | zero => rfl
  | succ n ih => simp [bytesN, ih]
theorem bytesN_lt (n V : Nat) : ∀ x ∈ bytesN n V, x < 256 := by
  induction n generalizing V with
  | zero => simp [bytesN]
  | succ n ih =>
    intro x hx
    rw [bytesN, List.mem_append] at hx
    rcases hx with hx | hx
    · exact ih _ x hx
    · simp at hx; omega
theorem bytesN_numB (l : List Nat) (h : ∀ x ∈ l, x < 256) : bytesN l.length (numB l) = l := by
  have key : ∀ n, n ≤ l.length → bytesN n (numB (l.take n)) = l.take n := by
    intro n
    induction n with
    | zero => intro _; simp [bytesN]
    | succ n ih =>
      intro hn
      have h2 := h l[n] (List.getElem_mem _)
      have e1 : (numB (l.take n) * 256 + l[n]) / 256 = numB (l.take n) := by omega
      have e2 : (numB (l.take n) * 256 + l[n]) % 256 = l[n] := by omega
      rw [numB_take_succ l n (by omega), bytesN, e1, e2, ih (by omega), List.take_succ_eq_append_getElem (by omega)]
  have := key l.length (Nat.le_refl _)
  rwa [List.take_length] at this
theorem bytesN_succ_front (n V : Nat) : bytesN (n + 1) V = bytesN n (V / 256) ++ [V % 256] := rfl
/-- the bytes of a number that another is the upper part of -/
theorem bytesN_mod (n V : Nat) : bytesN n (V % 256 ^ n) = bytesN n V := by
  induction n generalizing V with
  | zero => rfl
  | succ n ih =>
    rw [bytesN, bytesN, Nat.pow_succ, Nat.mul_comm, Nat.mod_mul_right_div_self, ih]
    congr 2
    rw [Nat.mod_mul_right_mod]

theorem length_fieldsN (r N : Nat) (ws : List Nat) : (fieldsN r N ws).length = ws.length := by
  induction ws generalizing r with
  | nil => rfl
  | cons w ws ih => simp [fieldsN, ih]
/-- the i-th field, without the recursion -/
theorem fieldsN_get (r N : Nat) (ws : List Nat) (i : Nat) (h : i < ws.length) (hr : tot ws ≤ r) :
    (fieldsN r N ws)[i]'(by rw [length_fieldsN]; exact h) = N / 2 ^ (r - tot (ws.take (i + 1))) % 2 ^ ws[i] := by
  induction ws generalizing r i with
  | nil => simp at h
  | cons w ws ih =>
    rw [tot_cons] at hr
    cases i with
    | zero => simp [fieldsN, tot]
    | succ i =>
      simp only [fieldsN, List.getElem_cons_succ, List.take_succ_cons, tot_cons]
      rw [ih (r - w) i (by simpa using h) (by omega), Nat.sub_sub]

theorem packN_mod (a N : Nat) (ws : List Nat) (r : Nat) (hr : r = tot ws) : packN a ws (fieldsN r N ws) = a * 2 ^ r + N % 2 ^ r := by
  induction ws generalizing a r with
  | nil => subst hr; simp [packN, tot, Nat.mod_one]
  | cons w ws ih =>
    rw [tot_cons] at hr
    rw [fieldsN, packN, ih _ (r - w) (by omega)]
    have e : r = (r - w) + w := by omega
    have hm : N % 2 ^ r = N % 2 ^ (r - w) + 2 ^ (r - w) * (N / 2 ^ (r - w) % 2 ^ w) := by
      conv => lhs; rw [e, Nat.pow_add]
      exact Nat.mod_mul
    have hp : 2 ^ r = 2 ^ w * 2 ^ (r - w) := by
      conv => lhs; rw [e, Nat.pow_add]
      exact Nat.mul_comm _ _
    rw [hm, hp, Nat.add_mul, Nat.mul_assoc, Nat.mul_comm (N / 2 ^ (r - w) % 2 ^ w)]
    omega
theorem fieldsN_fit (r N : Nat) (ws : List Nat) (i : Nat) (h : i < ws.length) (hr : tot ws ≤ r) : (fieldsN r N ws)[i]'(by rw [length_fieldsN]; exact h) < 2 ^ ws[i] := by
  rw [fieldsN_get r N ws i h hr]
  exact Nat.mod_lt _ (Nat.two_pow_pos _)

/-- 'vs' fit the widths -/
def Fit : List Nat → List Nat → Prop
  | [], [] => True
  | w :: ws, v :: vs => v < 2 ^ w ∧ Fit ws vs
  | _, _ => False
theorem fit_fieldsN (r N : Nat) (ws : List Nat) : Fit ws (fieldsN r N ws) := by
  induction ws generalizing r with
  | nil => simp [fieldsN, Fit]
  | cons w ws ih => exact ⟨Nat.mod_lt _ (Nat.two_pow_pos _), ih _⟩
theorem packN_split (a : Nat) (ws vs : List Nat) (h : Fit ws vs) : ∃ X, X < 2 ^ tot ws ∧ packN a ws vs = a * 2 ^ tot ws + X := by
  induction ws generalizing a vs with
  | nil =>
    cases vs with
    | nil => exact ⟨0, by simp [tot], by simp [packN, tot]⟩
    | cons v vs => exact absurd h (by simp [Fit])
  | cons w ws ih =>
    cases vs with
    | nil => exact absurd h (by simp [Fit])
    | cons v vs =>
      obtain ⟨h1, h2⟩ := h
      obtain ⟨X, hX, e⟩ := ih (a * 2 ^ w + v) vs h2
      refine ⟨v * 2 ^ tot ws + X, ?_, ?_⟩
      · rw [tot_cons, Nat.pow_add]
        have : (v + 1) * 2 ^ tot ws ≤ 2 ^ w * 2 ^ tot ws := Nat.mul_le_mul_right _ h1
        rw [Nat.add_mul] at this
        omega
      · rw [packN, e, tot_cons, Nat.pow_add, Nat.add_mul, Nat.mul_assoc]
        omega
theorem fieldsN_packN (a : Nat) (ws vs : List Nat) (h : Fit ws vs) : fieldsN (tot ws) (packN a ws vs) ws = vs := by
  induction ws generalizing a vs with
  | nil =>
    cases vs with
    | nil => rfl
    | cons v vs => exact absurd h (by simp [Fit])
  | cons w ws ih =>
    cases vs with
    | nil => exact absurd h (by simp [Fit])
    | cons v vs =>
      obtain ⟨h1, h2⟩ := h
      obtain ⟨X, hX, e⟩ := packN_split (a * 2 ^ w + v) ws vs h2
      rw [fieldsN, tot_cons, show w + tot ws - w = tot ws by omega, packN, ih _ _ h2, e]
      congr 1
      rw [Nat.mul_comm, Nat.mul_add_div (Nat.two_pow_pos _), Nat.div_eq_of_lt hX, Nat.add_zero, Nat.mul_comm, Nat.mul_add_mod]
      exact Nat.mod_eq_of_lt h1
end Go.Proofs.Ythknkfggpdhdbaa.M
namespace Go.Proofs.Ythknkfggpdhdbaa
open Go.RowKit

/-- A slice's first elements: there is none, or they lie in a row of cells. -/
def Seg (k : IntKind) (w : World) (a : Option Addr) (zs : List Int) : Prop :=
  zs = [] ∨ ∃ b off, a = some ⟨b, off, none⟩ ∧ ∀ i, i < zs.length → w.cell? ⟨b, off + i, none⟩ = some (.int k (zs.getD i 0))
/-- bytes: the same, as natural numbers -/
def toI (l : List Nat) : List Int := l.map (fun x : Nat => (x : Int))
theorem toI_len (l : List Nat) : (toI l).length = l.length := by simp [toI]
theorem toI_getD (l : List Nat) (i : Nat) : (toI l).getD i 0 = ((l.getD i 0 : Nat) : Int) := by
  simp only [toI, List.getD, List.getElem?_map]
  cases l[i]? <;> rfl
theorem toI_take (l : List Nat) (i : Nat) : (toI l).take i = toI (l.take i) := by simp [toI]
theorem toI_drop (l : List Nat) (i : Nat) : (toI l).drop i = toI (l.drop i) := by simp [toI]

/-- the cells of a row lie below B -/
def In (B : Nat) (a : Option Addr) (n : Nat) : Prop := n = 0 ∨ ∃ b off, a = some ⟨b, off, none⟩ ∧ b < B
theorem Seg.lt {k : IntKind} {w : World} {a : Option Addr} {zs : List Int} (h : Seg k w a zs) : In w.heap.size a zs.length := by
  rcases h with rfl | ⟨b, off, rfl, hc⟩
  · exact .inl rfl
  · by_cases h0 : zs.length = 0
    · exact .inl h0
    · exact .inr ⟨b, off, rfl, World.block_lt_of_cell? w _ (hc 0 (by omega))⟩
theorem In.mono {B C : Nat} {a : Option Addr} {n : Nat} (h : In B a n) (hBC : B ≤ C) : In C a n := by
  rcases h with h | ⟨b, off, h, hb⟩
  · exact .inl h
  · exact .inr ⟨b, off, h, by omega⟩
theorem Seg.below {k : IntKind} {w w' : World} {a : Option Addr} {zs : List Int} {B : Nat} (h : Seg k w a zs) (hi : In B a zs.length) (hb : Below B w w') : Seg k w' a zs := by
  rcases h with rfl | ⟨b, off, rfl, hc⟩
  · exact .inl rfl
  · rcases hi with h0 | ⟨b', off', e, hlt⟩
    · exact .inl (List.eq_nil_of_length_eq_zero h0)
    · simp only [Option.some.injEq, Addr.mk.injEq, and_true] at e
      obtain ⟨rfl, rfl⟩ := e
      exact .inr ⟨b, off, rfl, fun i hi' => (hb.cell (p := ⟨b, off + i, none⟩) hlt).trans (hc i hi')⟩
theorem Seg.old {k : IntKind} {w w' : World} {a : Option Addr} {zs : List Int} (h : Seg k w a zs) (hb : Below w.heap.size w w') : Seg k w' a zs := h.below h.lt hb

/-- where 'cut' begins -/
def cutA (a : Option Addr) (at' n : Nat) : Option Addr := if n = 0 then a else a.map (fun x => x.add at')
theorem Seg.cut {k : IntKind} {w : World} {a : Option Addr} {zs : List Int} (h : Seg k w a zs) (at' n : Nat) (hl : at' + n ≤ zs.length) : Seg k w (cutA a at' n) ((zs.drop at').take n) := by
  by_cases h0 : n = 0
  · subst h0; exact .inl (by simp)
  · rcases h with rfl | ⟨b, off, rfl, hc⟩
    · simp at hl; omega
    · refine .inr ⟨b, off + at', by simp [cutA, h0, Addr.add], ?_⟩
      intro i hi
      simp only [List.length_take, List.length_drop] at hi
      have := hc (at' + i) (by omega)
      rw [Nat.add_assoc, this]
      have hi1 : i < n := by omega
      simp [List.getD, hi1]

theorem Seg.part {k : IntKind} {w : World} {a : Option Addr} {zs : List Int} (h : Seg k w a zs) (at' n : Nat) (hl : at' + n ≤ zs.length) : Seg k w (a.map (fun x => x.add at')) ((zs.drop at').take n) := by
  by_cases h0 : n = 0
  · subst h0; exact .inl (by simp)
  · have := h.cut at' n hl
    rwa [cutA, if_neg h0] at this

theorem Seg.part0 {k : IntKind} {w : World} {a : Option Addr} {zs : List Int} (h : Seg k w a zs) (n : Nat) (hl : n ≤ zs.length) : Seg k w a (zs.take n) := by
  rcases h with rfl | ⟨b, off, rfl, hc⟩
  · exact .inl (by simp)
  · refine .inr ⟨b, off, rfl, fun i hi => ?_⟩
    simp only [List.length_take] at hi
    rw [hc i (by omega)]
    have hi1 : i < n := by omega
    simp [List.getD, hi1]

/-- What is told of a slice of integers that came in: it is nil; or it leads to a row of 'cap' cells that hold the numbers 'zs', each of which fits its kind. -/
def IsRow (k : IntKind) (w : World) (a : Option Addr) (len cap : Nat) (zs : List Int) : Prop :=
  (a = none ∧ len = 0 ∧ cap = 0 ∧ zs = []) ∨
  ∃ x, a = some x ∧ len ≤ cap ∧ cap ≤ maxLen ∧ zs.length = cap ∧ (∀ i, i < zs.length → w.cell? (x.add i) = some (.int k (zs.getD i 0))) ∧ ∀ n ∈ zs, (Lit.int k n).wf = true
theorem IsRow.seg {k : IntKind} {w : World} {a : Option Addr} {len cap : Nat} {zs : List Int} (h : IsRow k w a len cap zs) :
    ∃ ys : List Int, ys.length = len ∧ Seg k w a ys ∧ len ≤ cap ∧ cap ≤ 9223372036854775807 ∧ ∀ n ∈ ys, (Lit.int k n).wf = true := by
  rcases h with ⟨rfl, rfl, rfl, rfl⟩ | ⟨⟨b, off, spot⟩, rfl, hl, hm, hz, hc, hw⟩
  · exact ⟨[], rfl, .inl rfl, Nat.le_refl _, by omega, by intro n hn; cases hn⟩
  · refine ⟨zs.take len, by simp; omega, ?_, hl, by unfold maxLen at hm; exact hm, fun n hn => hw n (List.mem_of_mem_take hn)⟩
    by_cases h0 : len = 0
    · subst h0; exact .inl (by simp)
    · have h1 := hc 0 (by omega)
      have hs : spot = none := by simpa [Addr.add] using World.cell?_spot h1
      subst hs
      refine .inr ⟨b, off, rfl, fun i hi => ?_⟩
      simp only [List.length_take] at hi
      have := hc i (by omega)
      rw [Addr.add_lit] at this
      rw [this]
      have hi1 : i < len := by omega
      simp [List.getD, hi1]
/-- bytes that came in -/
theorem IsRow.bytes {w : World} {a : Option Addr} {len cap : Nat} {zs : List Int} (h : IsRow .u8 w a len cap zs) :
    ∃ bs : List Nat, bs.length = len ∧ Seg .u8 w a (toI bs) ∧ len ≤ cap ∧ cap ≤ 9223372036854775807 ∧ ∀ x ∈ bs, x < 256 := by
  obtain ⟨ys, hl, hs, h1, h2, hw⟩ := h.seg
  have hb : ∀ n ∈ ys, 0 ≤ n ∧ n ≤ 255 := fun n hn => by
    have := hw n hn
    simp [Lit.wf, IntKind.min, IntKind.max, IntKind.bits, IntKind.signed] at this
    omega
  have e : ys = toI (ys.map Int.toNat) := by
    unfold toI
    rw [List.map_map]
    conv => lhs; rw [← List.map_id ys]
    apply List.map_congr_left
    intro x hx
    have := hb x hx
    simp; omega
  refine ⟨ys.map Int.toNat, by simpa using hl, by rw [← e]; exact hs, h1, h2, ?_⟩
  intro x hx
  simp only [List.mem_map] at hx
  obtain ⟨y, hy, rfl⟩ := hx
  have := hb y hy
  omega

/-- the widths that may be -/
def okW (ws : List Int) : Bool := decide (ws.length ≤ 64) && ws.all (fun w => decide (1 ≤ w ∧ w ≤ 32)) && decide (ws.foldl (· + ·) 0 % 8 = 0)
def sumI (ws : List Int) : Int := ws.foldl (· + ·) 0
def boN (ws : List Int) : Int := if okW ws then sumI ws / 8 else 0
def boE (ws : List Int) : Int := if okW ws then 0 else 11

theorem sumI_take_succ (ws : List Int) (k : Nat) (h : k < ws.length) : sumI (ws.take (k + 1)) = sumI (ws.take k) + ws.getD k 0 := by
  unfold sumI
  rw [List.take_succ_eq_append_getElem h, List.foldl_append]
  simp [List.getD, h]
theorem sumI_toI (l : List Nat) : sumI (toI l) = (M.tot l : Int) := by
  have key : ∀ (l : List Nat) (a : Int), (toI l).foldl (· + ·) a = a + (M.tot l : Int) := by
    intro l
    induction l with
    | nil => intro a; simp [toI, M.tot]
    | cons x l ih =>
      intro a
      have e : toI (x :: l) = (x : Int) :: toI l := rfl
      rw [e, List.foldl_cons, ih, M.tot_cons]
      omega
  have := key l 0
  simpa [sumI] using this
/-- widths that may be are natural numbers -/
theorem okW_nat (ws : List Int) (h : okW ws = true) : ∃ l : List Nat, ws = toI l ∧ l.length ≤ 64 ∧ (∀ x ∈ l, 1 ≤ x ∧ x ≤ 32) ∧ M.tot l % 8 = 0 := by
  unfold okW at h
  simp only [Bool.and_eq_true, decide_eq_true_eq, List.all_eq_true] at h
  obtain ⟨⟨h1, h2⟩, h3⟩ := h
  have e : ws = toI (ws.map Int.toNat) := by
    unfold toI
    rw [List.map_map]
    conv => lhs; rw [← List.map_id ws]
    apply List.map_congr_left
    intro x hx
    have := h2 x hx
    simp; omega
  refine ⟨ws.map Int.toNat, e, by simpa using h1, ?_, ?_⟩
  · intro x hx
    simp only [List.mem_map] at hx
    obtain ⟨y, hy, rfl⟩ := hx
    have := h2 y hy
    omega
  · have h4 : sumI ws % 8 = 0 := h3
    rw [e, sumI_toI] at h4
    omega

/-- what is owned from a block on is owned from any block ahead of it -/
theorem owns_mono {w : World} {base base' : Nat} {e : TypeId} {size : Nat} {v : Value} {n : Nat} {xs : List Value} (h : w.ownsRow base e size v n xs) (hb : base' ≤ base) : w.ownsRow base' e size v n xs := by
  refine ⟨h.1, ?_⟩
  rcases h.2 with h2 | ⟨g, cap, cur, hv, hg, r⟩
  · exact .inl h2
  · exact .inr ⟨g, cap, cur, hv, by omega, r⟩
theorem owns_shape {w : World} {base : Nat} {e : TypeId} {size : Nat} {v : Value} {n : Nat} {xs : List Value} (h : w.ownsRow base e size v n xs) : ∃ a c, v = .slice a n c := by
  rcases h.2 with ⟨rfl, rfl⟩ | ⟨g, cap, cur, hv, r⟩
  · exact ⟨none, 0, rfl⟩
  · exact ⟨_, _, hv⟩

theorem ret2 {k1 k2 : IntKind} {a b c d : Int} (h1 : a = b) (h2 : c = d) : Ending.returned (.tuple #[.int k1 a, .int k2 c]) = .returned (.tuple #[.int k1 b, .int k2 d]) := by rw [h1, h2]
theorem ret1 {k : IntKind} {a b : Int} (h : a = b) : Ending.returned (.int k a) = .returned (.int k b) := by rw [h]

theorem Try.infoInt : (Try.prog.info? 3).map (fun i => (i.zero, i.size, i.bytes)) = some (some (.int .i64 0), 1, 8) := by kernel_rfl
theorem Try.infoByte : (Try.prog.info? 5).map (fun i => (i.zero, i.size, i.bytes)) = some (some (.int .u8 0), 1, 1) := by kernel_rfl
end Go.Proofs.Ythknkfggpdhdbaa
namespace Go.Proofs.Ythknkfggpdhdbaa
open Go.RowKit

def strOf (l : List Nat) : ByteArray := ⟨(l.map UInt8.ofNat).toArray⟩
theorem strOf_eq (a b : List Nat) (ha : ∀ x ∈ a, x < 256) (hb : ∀ x ∈ b, x < 256) (h : strOf a = strOf b) : a = b := by
  have h1 : (a.map UInt8.ofNat).toArray = (b.map UInt8.ofNat).toArray := congrArg ByteArray.data h
  have h2 : a.map UInt8.ofNat = b.map UInt8.ofNat := by simpa using h1
  have e : ∀ l : List Nat, (∀ x ∈ l, x < 256) → (l.map UInt8.ofNat).map UInt8.toNat = l := by
    intro l hl
    rw [List.map_map]
    conv => rhs; rw [← List.map_id l]
    apply List.map_congr_left
    intro x hx
    have := hl x hx
    simp [Nat.mod_eq_of_lt this]
  rw [← e a ha, ← e b hb, h2]

theorem conv_any (w : World) (a : Option Addr) (cap : Nat) (l : List Nat) (hs : Seg .u8 w a (toI l)) (h256 : ∀ x ∈ l, x < 256) :
    (convert 43 9 (.slice a l.length cap)).run Try.prog w = .ok (.string (strOf l)) w := by
  rcases hs with hnil | ⟨b, off, rfl, hc⟩
  · have h0 : l = [] := by cases l with | nil => rfl | cons x l => simp [toI] at hnil
    subst h0
    cases a with
    | none => rw [run_convert_bytes_string w 43 9 5 none _ cap Try.underlying43 Try.underlying5 Try.underlying9]; rfl
    | some ad => exact run_convert_bytes_back w 43 9 5 ad cap [] Try.underlying43 Try.underlying5 Try.underlying9 (by intro j hj; simp at hj)
  · have := run_convert_bytes_back (P := Try.prog) w 43 9 5 ⟨b, off, none⟩ cap (l.map UInt8.ofNat) Try.underlying43 Try.underlying5 Try.underlying9 (by
      intro j hj
      have hj' : j < l.length := by simpa using hj
      have h := hc j (by rw [toI_len]; exact hj')
      rw [toI_getD] at h
      have hl := h256 l[j] (List.getElem_mem _)
      simp [List.getD, hj'] at h
      rw [Addr.add_lit, h]
      simp [Nat.mod_eq_of_lt hl])
    rw [List.length_map] at this
    exact this

theorem owns_seg {w : World} {base : Nat} {e : TypeId} {v : Value} {n : Nat} {k : IntKind} {zs : List Int} (h : w.ownsRow base e 1 v n (zs.map (Value.int k))) :
    ∃ a c, v = .slice a n c ∧ Seg k w a zs ∧ zs.length = n ∧ n ≤ c ∧ c ≤ maxLen := by
  have hl : zs.length = n := by have := h.1; simpa using this
  rcases h.2 with ⟨rfl, rfl⟩ | ⟨g, cap, cur, rfl, hg, hh, hnc, hcm, r⟩
  · exact ⟨none, 0, rfl, .inl (List.eq_nil_of_length_eq_zero hl), hl, Nat.le_refl _, Nat.zero_le _⟩
  · refine ⟨_, _, rfl, .inr ⟨g, 0, rfl, ?_⟩, hl, hnc, hcm⟩
    intro i hi
    have := h.cellAt i (by omega)
    rw [Nat.zero_add, this]
    simp [List.getD, hi]
theorem toI_map (k : IntKind) (l : List Nat) : l.map (fun x : Nat => Value.int k (x : Int)) = (toI l).map (Value.int k) := by simp [toI]
theorem seg_new3 (w : World) (k : IntKind) (t : TypeId) (zs : List Int) : Seg k (w.alloc (.cells (zs.map (Value.int k)).toArray t)) (some ⟨w.heap.size, 0, none⟩) zs := by
  refine .inr ⟨_, _, rfl, ?_⟩
  intro i hi
  rw [Nat.zero_add, World.cell?_alloc_at _ _ _ _ rfl]
  simp [List.getD, hi]

end Go.Proofs.Ythknkfggpdhdbaa
namespace Go.Proofs.Ythknkfggpdhdbaa
open Go.RowKit

theorem run_append_nil {P : Program} {w : World} (base : Nat) (t ty e : TypeId) (i : TypeInfo) (size : Nat) (ht : P.underlying t = some (.slice e)) (hi : P.info? e = some i)
    (v : Value) (n c : Nat) (xs : List Value) (hown : w.ownsRow base e size v n xs) :
    (Builtin.append_ #[t, t] ty #[v, .slice none 0 c]).run P w = .ok v w := by
  rcases hown.2 with ⟨rfl, rfl⟩ | ⟨g, cap, cur, rfl, _, _, hnc, _⟩
  · simp [Builtin.append_, run_underlying ht, sizeOf, typeInfo, hi, Builtin.lenOf, Builtin.firstCells]
  · simp [Builtin.append_, run_underlying ht, sizeOf, typeInfo, hi, Builtin.lenOf, Builtin.firstCells, hnc, storeCells]

/-- 'append(v, x...)': v the call's own, x a slice whose elements are the numbers zs, nil or not. -/
theorem wpList_append_seg {P : Program} {w : World} {ops : Array Oper} {rest : List Oper} {o : Oper} {a : Act} {Q : Exit → Act → World → Prop} (hgd : o.guard = none) (s x : Operand) (t : TypeId)
    (ho : o.op = .call { callee := .builtin .append, args := #[s, x], argTypes := #[t, t] })
    (base : Nat) (e : TypeId) (i : TypeInfo) (z : Value) (bytes : Nat) (ht : P.underlying t = some (.slice e)) (hi : P.info? e = some i) (hz : i.zero = some z)
    (hsize : i.size = 1) (hby : i.bytes = bytes) (hzs : z.cells.size = 1)
    (v : Value) (n : Nat) (xs : List Value) (hs : a.eval s = v) (hown : w.ownsRow base e 1 v n xs)
    (k : IntKind) (ad : Option Addr) (m c : Nat) (zs : List Int) (hx : a.eval x = .slice ad m c) (hm : zs.length = m) (hseg : Seg k w ad zs)
    (h63 : n + m ≤ maxLen) (hbytes : (n + m) * bytes ≤ 140737488355328) (hbase : base ≤ w.heap.size)
    (h : ∀ v' w', w'.ownsRow base e 1 v' (n + m) (xs ++ zs.map (Value.int k)) → w.grownBy w' v.ownBlock → wpList P ops Q rest (a.put o.dst v') w') : wpList P ops Q (o :: rest) a w := by
  have nil_case : zs = [] → ad = none → wpList P ops Q (o :: rest) a w := by
    intro hz0 hn
    subst hz0 hn
    have hm0 : m = 0 := by simpa using hm.symm
    subst hm0
    refine wpList_plain hgd fun K hK => ?_
    have hrun := run_append_nil (P := P) (w := w) base t o.type e i 1 ht hi v n c xs hown
    unfold Oper.wp
    simp [execOp, ho, resolve, invoke, builtin, hs, hx, hrun, Result.andThen]
    exact hK _ _ (h v w (by simpa using hown) ⟨rfl, rfl, rfl, Nat.le_refl _, fun _ _ _ => rfl⟩)
  have some_case : ∀ b : Addr, ad = some b → (∀ j u, (zs.map (Value.int k))[j]? = some u → w.cell? (b.add j) = some u) → wpList P ops Q (o :: rest) a w := by
    intro b hb hc
    subst hb
    refine wpList_append_own w hgd s x t ho base e i z 1 bytes ht hi hz hsize hby hzs (by decide) v n xs hs hown b m c (zs.map (Value.int k)) hx (by simpa using hm) hc ?_ h63 hbytes hbase (fun v' w' h1 h2 _ => h v' w' h1 h2)
    intro u hu
    simp only [List.mem_map] at hu
    obtain ⟨y, _, rfl⟩ := hu
    rfl
  rcases hseg with hz0 | ⟨b, off, rfl, hc⟩
  · cases ad with
    | none => exact nil_case hz0 rfl
    | some b => exact some_case b rfl (by intro j u hj; rw [hz0] at hj; simp at hj)
  · refine some_case _ rfl ?_
    intro j u hj
    have hj' : j < zs.length := by
      have := (List.getElem?_eq_some_iff.1 hj).1
      simpa using this
    rw [Addr.add_lit, hc j hj']
    simp [List.getElem?_eq_getElem hj'] at hj
    rw [← hj]
    simp [List.getD, hj']

theorem owns_drew {w : World} {base : Nat} {e : TypeId} {size : Nat} {v : Value} {n : Nat} {xs : List Value} (h : w.ownsRow base e size v n xs) : w.drew.ownsRow base e size v n xs := h

end Go.Proofs.Ythknkfggpdhdbaa
namespace Go.Proofs.Ythknkfggpdhdbaa
open Go.RowKit

theorem kind {w : World} {B : Nat} {e : TypeId} {v : Value} {n : Nat} {xs : List Value} (h : w.ownsRow B e 1 v n xs) : ∀ g, v.ownBlock = some g → ∃ c, w.heap[g]? = some (.cells c e (0, 0)) := by
  intro g hg
  rcases h.2 with ⟨rfl, _⟩ | ⟨g', cap, cur, rfl, _, hh, _⟩
  · simp [Value.ownBlock] at hg
  · simp [Value.ownBlock] at hg; subst hg; exact ⟨cur, hh⟩
theorem apart {w : World} {B B' : Nat} {e e' : TypeId} {v v' : Value} {n n' : Nat} {xs xs' : List Value} (h : w.ownsRow B e 1 v n xs) (h' : w.ownsRow B' e' 1 v' n' xs') (hne : e ≠ e') : v.ownBlock = none ∨ v.ownBlock ≠ v'.ownBlock := by
  cases hv : v.ownBlock with
  | none => exact .inl rfl
  | some g =>
    refine .inr (fun hc => hne ?_)
    obtain ⟨c, hc1⟩ := kind h g hv
    obtain ⟨c', hc2⟩ := kind h' g hc.symm
    rw [hc1] at hc2
    simp at hc2
    exact hc2.2
theorem owns_le {w : World} {b b' : Nat} {e : TypeId} {v : Value} {n : Nat} {xs : List Value} (h : w.ownsRow b e 1 v n xs) (hb : b' ≤ b) : w.ownsRow b' e 1 v n xs := by
  refine ⟨h.1, ?_⟩
  rcases h.2 with h2 | ⟨g, cap, cur, rfl, hg, r⟩
  · exact .inl h2
  · exact .inr ⟨g, cap, cur, rfl, Nat.le_trans hb hg, r⟩
theorem gtrans {a b c : World} {r : Option Nat} (h : a.grownBy b r) (k : b.grownBy c r) : a.grownBy c r :=
  ⟨k.os.trans h.os, k.tape.trans h.tape, k.output.trans h.output, Nat.le_trans h.size k.size, fun i hi hr => (k.block i (Nat.lt_of_lt_of_le hi h.size) hr).trans (h.block i hi hr)⟩
/-- a write to a block that was not yet there -/
theorem gfar {a b c : World} {r s : Option Nat} (h : a.grownBy b r) (k : b.grownBy c s) (hs : ∀ q, s = some q → a.heap.size ≤ q) : a.grownBy c r :=
  ⟨k.os.trans h.os, k.tape.trans h.tape, k.output.trans h.output, Nat.le_trans h.size k.size, fun i hi hr => (k.block i (Nat.lt_of_lt_of_le hi h.size) (fun e => by have := hs i e.symm; omega)).trans (h.block i hi hr)⟩

/-- 'append(v, x...)': in the row where v lies, or in a new one: then v's row stays. -/
theorem append_split {P : Program} {w : World} {ops : Array Oper} {rest : List Oper} {o : Oper} {a : Act} {Q : Exit → Act → World → Prop} (hgd : o.guard = none) (s x : Operand) (t : TypeId)
    (ho : o.op = .call { callee := .builtin .append, args := #[s, x], argTypes := #[t, t] })
    (base : Nat) (e : TypeId) (i : TypeInfo) (z : Value) (bytes : Nat) (ht : P.underlying t = some (.slice e)) (hi : P.info? e = some i) (hz : i.zero = some z)
    (hsize : i.size = 1) (hby : i.bytes = bytes) (hzs : z.cells.size = 1)
    (v : Value) (n : Nat) (xs : List Value) (hs : a.eval s = v) (hown : w.ownsRow base e 1 v n xs)
    (ad : Addr) (m c : Nat) (news : List Value) (hx : a.eval x = .slice (some ad) m c) (hl : news.length = m * 1) (hnews : ∀ j u, news[j]? = some u → w.cell? (ad.add j) = some u) (h1 : ∀ u ∈ news, u.oneCell' = true)
    (h63 : n + m ≤ maxLen) (hbytes : (n + m) * bytes ≤ 140737488355328) (hbase : base ≤ w.heap.size)
    (h : ∀ v' w', w'.ownsRow base e 1 v' (n + m) (xs ++ news) → ((w.grownBy w' none ∧ ∀ q, v'.ownBlock = some q → w.heap.size ≤ q) ∨ (w.grownBy w' v.ownBlock ∧ v'.ownBlock = v.ownBlock ∧ v.ownBlock ≠ none)) → wpList P ops Q rest (a.put o.dst v') w') : wpList P ops Q (o :: rest) a w := by
  rcases hown.2 with ⟨rfl, rfl⟩ | ⟨g, cap, cur, rfl, hbg, hg, hnc, hcm, hcs, htake⟩
  · have hx0 : xs = [] := List.eq_nil_of_length_eq_zero (by simpa using hown.1)
    subst hx0
    refine wpList_append_own_at w hgd s x t ho w.heap.size e i z 1 bytes ht hi hz hsize hby hzs (by decide) (.slice none 0 0) 0 [] hs (World.ownsRow_nil _ _ _ _) ad m c news hx hl hnews h1 h63 hbytes (Nat.le_refl _) ?_
    intro v' w' r1 r2 _ _
    exact h v' w' (owns_le r1 hbase) (.inl ⟨r2, fun q hq => (r1.lt q hq).1⟩)
  · by_cases hroom : n + m ≤ cap
    · refine wpList_append_own_spare w hgd s x t ho base e i 1 ht hi hsize g n cap xs hs hown ad m c news hx hl hnews h1 hroom ?_
      intro w' r1 r2
      exact h _ w' r1 (.inr ⟨r2, rfl, by simp [Value.ownBlock]⟩)
    · refine wpList_plain hgd fun K hK => ?_
      obtain ⟨v', w', hrun, r1, r2⟩ := run_append_arg_grows (P := P) w t o.type e i z 1 bytes ht hi hz hsize hby hzs (by decide) ⟨g, 0, none⟩ n cap xs hown.1 (hown.cells rfl) ad m c news hl hnews (by omega) h63 hbytes
      unfold Oper.wp
      simp [execOp, ho, resolve, invoke, builtin, hs, hx, hrun, Result.andThen]
      exact hK _ _ (h v' w' (owns_le r1 hbase) (.inl ⟨r2, fun q hq => (r1.lt q hq).1⟩))

/-- blocks of the set S alone were changed, or new ones made -/
structure Ch (S : Nat → Prop) (w w' : World) : Prop where
  os : w'.os = w.os
  tape : w'.tape = w.tape
  output : w'.output = w.output
  size : w.heap.size ≤ w'.heap.size
  block : ∀ k, k < w.heap.size → ¬ S k → w'.heap[k]? = w.heap[k]?
theorem Ch.refl (S : Nat → Prop) (w : World) : Ch S w w := ⟨rfl, rfl, rfl, Nat.le_refl _, fun _ _ _ => rfl⟩
theorem Ch.trans {S T : Nat → Prop} {a b c : World} (h : Ch S a b) (k : Ch T b c) (hT : ∀ x, x < a.heap.size → T x → S x) : Ch S a c :=
  ⟨k.os.trans h.os, k.tape.trans h.tape, k.output.trans h.output, Nat.le_trans h.size k.size, fun x hx hS => (k.block x (Nat.lt_of_lt_of_le hx h.size) (fun t => hS (hT x hx t))).trans (h.block x hx hS)⟩
theorem Ch.mono {S T : Nat → Prop} {a b : World} (h : Ch S a b) (hS : ∀ x, x < a.heap.size → S x → T x) : Ch T a b := ⟨h.os, h.tape, h.output, h.size, fun x hx hT => h.block x hx (fun s => hT (hS x hx s))⟩
theorem Ch.ofGrown {a b : World} {r : Option Nat} (h : a.grownBy b r) : Ch (fun k => r = some k) a b := ⟨h.os, h.tape, h.output, h.size, fun x hx hr => h.block x hx (fun e => hr e.symm)⟩
theorem Ch.ofBelow {S : Nat → Prop} {a b : World} (h : Below a.heap.size a b) : Ch S a b := ⟨h.os, h.tape, h.output, h.size, fun x hx _ => h.block x hx⟩
theorem Ch.below {S : Nat → Prop} {a b : World} {B : Nat} (h : Ch S a b) (hB : ∀ x, S x → B ≤ x) (hs : B ≤ a.heap.size) : Below B a b := ⟨h.os, h.tape, h.output, h.size, fun x hx => h.block x (Nat.lt_of_lt_of_le hx hs) (fun s => by have := hB x s; omega)⟩
theorem Ch.cell {S : Nat → Prop} {a b : World} (h : Ch S a b) {p : Addr} {v : Value} (hc : a.cell? p = some v) (hS : ¬ S p.block) : b.cell? p = some v :=
  (World.cell?_of_block (h.block p.block (World.block_lt_of_cell? a p hc) hS)).trans hc
theorem Ch.frozen {S : Nat → Prop} {a b : World} (h : Ch S a b) {p : Addr} (hlt : p.block < a.heap.size) (hS : ¬ S p.block) : b.frozen? p = a.frozen? p := World.frozen?_of_block (h.block p.block hlt hS)
theorem Ch.owns {S : Nat → Prop} {a b : World} (h : Ch S a b) {base : Nat} {e : TypeId} {sz : Nat} {v : Value} {n : Nat} {xs : List Value} (k : a.ownsRow base e sz v n xs) (hS : ∀ g, v.ownBlock = some g → ¬ S g) : b.ownsRow base e sz v n xs := by
  refine ⟨k.1, ?_⟩
  rcases k.2 with hn | ⟨g, cap, cur, rfl, hb, hgg, rest⟩
  · exact .inl hn
  · refine .inr ⟨g, cap, cur, rfl, hb, ?_, rest⟩
    rw [h.block g (Array.getElem?_eq_some_iff.1 hgg).1 (hS g rfl)]
    exact hgg
theorem Ch.seg {S : Nat → Prop} {a b : World} (h : Ch S a b) {k : IntKind} {ad : Option Addr} {zs : List Int} (hs : Seg k a ad zs) (hS : ∀ x, zs ≠ [] → ad = some x → ¬ S x.block) : Seg k b ad zs := by
  rcases hs with hnil | ⟨g, off, rfl, hc⟩
  · exact .inl hnil
  · by_cases h0 : zs = []
    · exact .inl h0
    · exact .inr ⟨g, off, rfl, fun i hi => h.cell (hc i hi) (hS ⟨g, off, none⟩ h0 rfl)⟩
theorem Ch.drew {S : Nat → Prop} {a b : World} (h : Ch S a b) : Ch S a b.drew := ⟨h.os, h.tape, h.output, h.size, h.block⟩
theorem Ch.set {S : Nat → Prop} {a b : World} (h : Ch S a b) (p : Addr) (v : Value) (hp : S p.block) : Ch S a (b.setCell p v) :=
  ⟨h.os, h.tape, h.output, by simpa using h.size, fun k hk hS => by rw [heap_setCell_other _ _ _ _ (fun e => hS (by rw [e]; exact hp))]; exact h.block k hk hS⟩
theorem Ch.alloc {S : Nat → Prop} {a b : World} (h : Ch S a b) (X : Obj) : Ch S a (b.alloc X) := h.trans (Ch.ofBelow (S := S) ((Below.refl _ _).alloc (Nat.le_refl _) X)) (fun _ _ s => s)

/-- append of a slice of any address, nil or not, onto a row of one's own: its two ways apart -/
theorem append_split_seg {P : Program} {w : World} {ops : Array Oper} {rest : List Oper} {o : Oper} {a : Act} {Q : Exit → Act → World → Prop} (hgd : o.guard = none) (s x : Operand) (t : TypeId)
    (ho : o.op = .call { callee := .builtin .append, args := #[s, x], argTypes := #[t, t] })
    (base : Nat) (e : TypeId) (i : TypeInfo) (z : Value) (bytes : Nat) (ht : P.underlying t = some (.slice e)) (hi : P.info? e = some i) (hz : i.zero = some z)
    (hsize : i.size = 1) (hby : i.bytes = bytes) (hzs : z.cells.size = 1)
    (v : Value) (n : Nat) (xs : List Value) (hs : a.eval s = v) (hown : w.ownsRow base e 1 v n xs)
    (k : IntKind) (ad : Option Addr) (m c : Nat) (zs : List Int) (hx : a.eval x = .slice ad m c) (hm : zs.length = m) (hseg : Seg k w ad zs)
    (h63 : n + m ≤ maxLen) (hbytes : (n + m) * bytes ≤ 140737488355328) (hbase : base ≤ w.heap.size)
    (h : ∀ v' w', w'.ownsRow base e 1 v' (n + m) (xs ++ zs.map (Value.int k)) → (∀ q, v'.ownBlock = some q → v.ownBlock = some q ∨ w.heap.size ≤ q) → w.grownBy w' v.ownBlock → wpList P ops Q rest (a.put o.dst v') w') : wpList P ops Q (o :: rest) a w := by
  have nil_case : zs = [] → ad = none → wpList P ops Q (o :: rest) a w := by
    intro hz0 hn
    subst hz0 hn
    have hm0 : m = 0 := by simpa using hm.symm
    subst hm0
    refine wpList_plain hgd fun K hK => ?_
    have hrun := run_append_nil (P := P) (w := w) base t o.type e i 1 ht hi v n c xs hown
    unfold Oper.wp
    simp [execOp, ho, resolve, invoke, builtin, hs, hx, hrun, Result.andThen]
    exact hK _ _ (h v w (by simpa using hown) (fun q hq => .inl hq) ⟨rfl, rfl, rfl, Nat.le_refl _, fun _ _ _ => rfl⟩)
  have some_case : ∀ b : Addr, ad = some b → (∀ j u, (zs.map (Value.int k))[j]? = some u → w.cell? (b.add j) = some u) → wpList P ops Q (o :: rest) a w := by
    intro b hb hc
    subst hb
    refine append_split hgd s x t ho base e i z bytes ht hi hz hsize hby hzs v n xs hs hown b m c (zs.map (Value.int k)) hx (by simpa using hm) hc ?_ h63 hbytes hbase (fun v' w' h1 h2 => ?_)
    · intro u hu
      simp only [List.mem_map] at hu
      obtain ⟨y, _, rfl⟩ := hu
      rfl
    · rcases h2 with ⟨g1, g2⟩ | ⟨g1, g2, g3⟩
      · exact h v' w' h1 (fun q hq => .inr (g2 q hq)) ⟨g1.os, g1.tape, g1.output, g1.size, fun j hj _ => g1.block j hj (by simp)⟩
      · exact h v' w' h1 (fun q hq => .inl (by rw [← g2]; exact hq)) g1
  rcases hseg with hz0 | ⟨b, off, rfl, hc⟩
  · cases ad with
    | none => exact nil_case hz0 rfl
    | some b => exact some_case b rfl (by intro j u hj; rw [hz0] at hj; simp at hj)
  · refine some_case _ rfl ?_
    intro j u hj
    have hj' : j < zs.length := by
      have := (List.getElem?_eq_some_iff.1 hj).1
      simpa using this
    rw [Addr.add_lit, hc j hj']
    simp [List.getElem?_eq_getElem hj'] at hj
    rw [← hj]
    simp [List.getD, hj']
end Go.Proofs.Ythknkfggpdhdbaa
namespace Go.Proofs.Ythknkfggpdhdbaa.Mix

/-- the end of a region that ends without a panic -/
def only (Q : Exit → Act → World → Prop) : Exit → Act → World → Prop := fun e a w => e = .normal ∧ Q .normal a w
theorem only_panic {Q : Exit → Act → World → Prop} {c : List PanicEntry} {a a' : Act} {w : World} (h : only Q (.panic c) a w) : only Q (.panic c) a' w := by cases h.1

theorem region_only {P : Program} {ops : Array Oper} {Q : Exit → Act → World → Prop} {a : Act} {w : World} {id : Nat} (hm : P.follows .mixedOrders = true)
    (h : wpAny P .any ops (only Q) ops.size (Array.replicate ops.size false) a w.drew) : (Code.region id ops true).wp P Q a w :=
  Code.wp_mono (fun e a w h => by obtain ⟨rfl, h⟩ := h; exact h) (wp_region_any (Q := only Q) hm h)

/-- operations that hand back a value, whatever else -/
def kind (o : Op) : Bool :=
  match o with
  | .move _ => true
  | .assign _ => true
  | .pick _ _ _ => true
  | .binOp _ _ _ _ _ => true
  | .unOp _ _ _ => true
  | .convert _ _ _ => true
  | .slice _ _ _ _ _ => true
  | .extract _ _ => true
  | .indexAddr _ _ _ => true
  | .build _ _ => true
  | .fieldAddr _ _ _ => true
  | .nilCheck _ => true
  | .field _ _ _ => true
  | .index _ _ _ => true
  | .call c => match c.callee with | .builtin .len => true | _ => false
  | _ => false
theorem then_value {s : Result Value} {n : Next} {w' : World} (h : (s.andThen fun a w => .ok (Next.value a) w) = .ok n w') : ∃ v, n = .value v := by
  cases s with
  | ok a w => simp only [Result.andThen, Result.ok.injEq] at h; exact ⟨a, h.1.symm⟩
  | halt x w => simp [Result.andThen] at h
theorem value_of {P : Program} {o : Oper} (hk : kind o.op = true) {ρ : Operand → Value} {w w' : World} {n : Next} (h : (execOp ρ o).run P w = .ok n w') : ∃ v, n = .value v := by
  obtain ⟨dst, op, type, pos, after, guard⟩ := o
  cases op <;> simp only [kind, Bool.false_eq_true] at hk
  case move x => simp [execOp] at h; exact ⟨_, h.1.symm⟩
  case assign x => simp [execOp] at h; exact ⟨_, h.1.symm⟩
  case nilCheck x =>
    simp only [execOp] at h
    (repeat' split at h) <;> first
      | (simp only [Sem.run_pure, Result.ok.injEq] at h; exact ⟨_, h.1.symm⟩)
      | (exfalso; simp [runtimePanic] at h; done)
      | skip
    all_goals
      rename_i t w0 _
      simp only [Sem.run_bind] at h
      generalize hA : Sem.run P program w = A at h
      cases A with
      | halt y w1 => simp [Result.andThen] at h
      | ok p w1 =>
        simp only [Result.andThen] at h
        generalize hB : Sem.run P (nilAhead (p.types.size + Made.depth) t w0 _) w1 = C at h
        cases C with
        | halt y w2 => simp at h
        | ok b w2 =>
          simp only at h
          split at h
          · simp only [Sem.run_bind] at h
            generalize hD : Sem.run P (unsupported _) w2 = D at h
            cases D with
            | halt y w3 => simp [Result.andThen] at h
            | ok u w3 => simp only [Result.andThen, Sem.run_pure, Result.ok.injEq] at h; exact ⟨_, h.1.symm⟩
          · simp only [Sem.run_pure, Result.ok.injEq] at h; exact ⟨_, h.1.symm⟩
  case pick c a b =>
    simp only [execOp, Sem.run_bind, Sem.run_pure] at h
    cases hs : (asBool (ρ c)).run P w with
    | ok b w1 => rw [hs] at h; simp only [Result.andThen, Result.ok.injEq] at h; exact ⟨_, h.1.symm⟩
    | halt x w1 => rw [hs] at h; simp [Result.andThen] at h
  case call c =>
    obtain ⟨callee, args, argTypes⟩ := c
    cases callee with
    | builtin b =>
      cases b <;> simp only [Bool.false_eq_true] at hk
      simp only [execOp, resolve, invoke, builtin, Sem.run_bind, Sem.run_pure, Result.andThen] at h
      split at h
      · simp only [Result.ok.injEq] at h; exact ⟨_, h.1.symm⟩
      · cases h
    | value f => simp at hk
    | invoke r m => simp at hk
  all_goals
    simp only [execOp, Sem.run_bind, Sem.run_pure] at h
    exact then_value h

/-- taken first: what it hands back in every world -/
theorem yields_of {P : Program} {ops : Array Oper} {o : Oper} {a : Act} {v : Value} (hk : kind o.op = true) (hw : Region.wanted o (yielded ops a.tmps) = true) (h : ∀ w, True → o.quietAt P a (fun _ => True) w v) : Yields P ops o v a := by
  refine .inl ⟨hw, fun w => ?_⟩
  have h1 := h w trivial
  unfold Oper.quietAt at h1
  cases hr : (execOp a.eval o).run P w with
  | ok n w' =>
    obtain ⟨u, rfl⟩ := value_of hk hr
    rw [hr] at h1
    simp only [Oper.quietUpon] at h1
    rw [h1.1, h1.2]
  | halt x w' => rw [hr] at h1; simp only [Oper.quietUpon] at h1

/-- the operations of a batch may be taken one behind the other -/
def batchB (ops : Array Oper) : List Nat → Array Bool → Bool
  | [], _ => true
  | i :: is, listed => ((ops[i]?).map (fun o => kind o.op)).getD false && Region.free .any ops listed i && (Region.ready .any ops listed).contains i && batchB ops is (listed.setIfInBounds i true)
def mark : List Nat → Array Bool → Array Bool
  | [], l => l
  | i :: is, l => mark is (l.setIfInBounds i true)
theorem batch {P : Program} {ops : Array Oper} {Q : Exit → Act → World → Prop} (hs : Region.noSelect ops = true) : ∀ (is : List Nat) (os : List Oper) (fuel : Nat) (listed : Array Bool) (a : Act) (w : World),
    is.map (fun i => ops[i]?) = os.map some → batchB ops is listed = true → wpQuiet P ops (fun _ => True) (fun a' => wpAny P .any ops (only Q) fuel (mark is listed) a' w) os a → wpAny P .any ops (only Q) (fuel + is.length) listed a w
  | [], [], fuel, listed, a, w, _, _, h => h
  | [], o :: os, _, _, _, _, he, _, _ => by simp at he
  | i :: is, [], _, _, _, _, he, _, _ => by simp at he
  | i :: is, o :: os, fuel, listed, a, w, he, hb, h => by
    simp only [List.map_cons, List.cons.injEq] at he
    obtain ⟨hi, he⟩ := he
    simp only [batchB, hi, Option.map_some, Option.getD_some, Bool.and_eq_true] at hb
    obtain ⟨⟨⟨hk, hf⟩, hr⟩, hb⟩ := hb
    simp only [wpQuiet] at h
    by_cases hw : Region.wanted o (yielded ops a.tmps) = true
    · rw [if_pos hw] at h
      obtain ⟨v, hv, hn⟩ := h
      exact wpAny_take hi hs hf hr (fun c a w h => only_panic h) (yields_of hk hw hv) (batch hs is os fuel _ _ w he hb hn)
    · rw [if_neg hw] at h
      exact wpAny_take hi hs hf hr (fun c a w h => only_panic h) (.inr ⟨by simpa using hw, rfl⟩) (batch hs is os fuel _ _ w he hb h)

theorem no_out (Q : Exit → Act → World → Prop) : ¬ LetsOut (only Q) := by rintro ⟨a, w, h, _⟩; cases h
theorem wp_only {P : Program} {o : Oper} {a : Act} {w : World} {K K' : Act → World → Prop} {Q Q' : Exit → Act → World → Prop} (hK : ∀ a w, K a w → K' a w) (h : o.wp P a w K (only Q)) : o.wp P a w K' (only Q') := by
  unfold Oper.wp at *
  generalize (execOp a.eval o).run P w = r at *
  cases r with
  | ok n w' =>
    cases n <;> simp only [Oper.upon] at h ⊢
    case value v => exact hK _ _ h
    case skip => exact hK _ _ h
    case defer d => exact hK _ _ h
    case enter f args =>
      refine Calls.mono h fun e w'' he => ?_
      cases e with
      | returned v => exact hK _ _ he
      | panicked c => cases he.1
      | outgrown => exact absurd he (no_out Q)
    case row r args => exact Rows.mono h fun v w'' he => hK _ _ he
  | halt x w' =>
    cases x <;> simp only [Oper.upon] at h ⊢
    case panic v => cases h.1
/-- one operation that alone may come up -/
theorem heavy {P : Program} {ops : Array Oper} {Q : Exit → Act → World → Prop} {i : Nat} {o : Oper} {fuel : Nat} {listed : Array Bool} {a : Act} {w : World} (hi : ops[i]? = some o) (hr : Region.ready .any ops listed = [i])
    (h : wpList P ops (only fun _ a w => wpAny P .any ops (only Q) fuel (listed.setIfInBounds i true) a w) [o] a w) : wpAny P .any ops (only Q) (fuel + 1) listed a w := by
  refine wpAny_all hr (by simp) fun j hj => ?_
  simp only [List.mem_singleton] at hj
  subst hj
  unfold wpOp
  simp only [hi]
  unfold wpList at h
  split
  · rename_i hw
    rw [if_pos hw] at h
    rcases h with h | ⟨_, h⟩
    · exact .inl (wp_only (fun a w h => h.2) h)
    · exact absurd h (no_out _)
  · rename_i hw
    rw [if_neg hw] at h
    exact h.2
theorem done {P : Program} {ops : Array Oper} {Q : Exit → Act → World → Prop} {listed : Array Bool} {a : Act} {w : World} {fuel : Nat} (hr : Region.ready .any ops listed = []) (h : Q .normal a w) : wpAny P .any ops (only Q) fuel listed a w :=
  wpAny_done hr ⟨rfl, h⟩ fuel

/-- the operations that are marked -/
def pick : List Bool → List Oper → List Oper
  | true :: fs, o :: l => o :: pick fs l
  | false :: fs, _ :: l => pick fs l
  | _, _ => []
def idx : List Bool → Nat → List Nat
  | true :: fs, k => k :: idx fs (k + 1)
  | false :: fs, k => idx fs (k + 1)
  | [], _ => []
theorem idx_pick (ops : Array Oper) : ∀ (fs : List Bool) (l : List Oper) (k : Nat), (∀ j, l[j]? = ops[k + j]?) → fs.length ≤ l.length → (idx fs k).map (fun i => ops[i]?) = (pick fs l).map some
  | [], l, k, _, _ => by cases l <;> rfl
  | f :: fs, [], k, _, hl => by simp at hl
  | f :: fs, o :: l, k, h, hl => by
    have h0 : ops[k]? = some o := by simpa using (h 0).symm
    have ih := idx_pick ops fs l (k + 1) (fun j => by have := h (j + 1); simpa [Nat.add_assoc, Nat.add_comm 1 j] using this) (by simpa using hl)
    cases f
    · exact ih
    · simp only [idx, pick, List.map_cons, h0, ih]
theorem start {P : Program} {l : List Oper} {Q : Exit → Act → World → Prop} {a : Act} {w : World} {id : Nat} (hm : P.follows .mixedOrders = true)
    (h : wpAny P .any l.toArray (only Q) l.length (Array.replicate l.length false) a w.drew) : (Code.region id l.toArray true).wp P Q a w :=
  region_only hm (by simpa using h)
theorem take {P : Program} {l : List Oper} {Q : Exit → Act → World → Prop} {F : Nat} {listed : Array Bool} {a : Act} {w : World} (fs : List Bool) (fuel : Nat) (hs : Region.noSelect l.toArray = true) (hF : F = fuel + (idx fs 0).length) (hl : fs.length ≤ l.length) (hb : batchB l.toArray (idx fs 0) listed = true)
    (h : ∀ K : Act → Prop, (∀ a', wpAny P .any l.toArray (only Q) fuel (mark (idx fs 0) listed) a' w → K a') → wpQuiet P l.toArray (fun _ => True) K (pick fs l) a) : wpAny P .any l.toArray (only Q) F listed a w := by
  rw [hF]
  exact batch hs (idx fs 0) (pick fs l) fuel listed a w (idx_pick _ fs l 0 (by simp) hl) hb (h _ (fun _ h => h))
theorem one {P : Program} {l : List Oper} {Q : Exit → Act → World → Prop} {F : Nat} {listed : Array Bool} {a : Act} {w : World} (fs : List Bool) (fuel : Nat) (i : Nat) (o : Oper) (ho : pick fs l = [o]) (hi : l[i]? = some o) (hr : Region.ready .any l.toArray listed = [i]) (hF : F = fuel + 1)
    (h : ∀ K : Act → World → Prop, (∀ a' w', wpAny P .any l.toArray (only Q) fuel (listed.setIfInBounds i true) a' w' → K a' w') → wpList P l.toArray (only fun _ => K) (pick fs l) a w) : wpAny P .any l.toArray (only Q) F listed a w := by
  rw [hF]
  have h1 := h _ (fun _ _ h => h)
  rw [ho] at h1
  exact heavy (by simpa using hi) hr h1
/-- two operations that may come up: each, and what follows it -/
theorem pair {P : Program} {l : List Oper} {Q : Exit → Act → World → Prop} {F : Nat} {listed : Array Bool} {a : Act} {w : World} (fs fs' : List Bool) (fuel : Nat) (i j : Nat) (o o' : Oper) (ho : pick fs l = [o]) (ho' : pick fs' l = [o']) (hi : l[i]? = some o) (hj : l[j]? = some o') (hr : Region.ready .any l.toArray listed = [i, j]) (hF : F = fuel + 1)
    (h : ∀ K : Act → World → Prop, (∀ a' w', wpAny P .any l.toArray (only Q) fuel (listed.setIfInBounds i true) a' w' → K a' w') → wpList P l.toArray (only fun _ => K) (pick fs l) a w)
    (h' : ∀ K : Act → World → Prop, (∀ a' w', wpAny P .any l.toArray (only Q) fuel (listed.setIfInBounds j true) a' w' → K a' w') → wpList P l.toArray (only fun _ => K) (pick fs' l) a w) : wpAny P .any l.toArray (only Q) F listed a w := by
  rw [hF]
  have h1 := h _ (fun _ _ h => h)
  have h2 := h' _ (fun _ _ h => h)
  rw [ho] at h1
  rw [ho'] at h2
  have key : ∀ (k : Nat) (p : Oper), l[k]? = some p → wpList P l.toArray (only fun _ => wpAny P .any l.toArray (only Q) fuel (listed.setIfInBounds k true)) [p] a w → wpOp P l.toArray (only Q) k (wpAny P .any l.toArray (only Q) fuel (listed.setIfInBounds k true)) a w := by
    intro k p hk hp
    unfold wpOp
    have hk' : l.toArray[k]? = some p := by simpa using hk
    simp only [hk']
    unfold wpList at hp
    split
    · rename_i hw
      rw [if_pos hw] at hp
      rcases hp with hp | ⟨_, hp⟩
      · exact .inl (wp_only (fun a w h => h.2) hp)
      · exact absurd hp (no_out _)
    · rename_i hw
      rw [if_neg hw] at hp
      exact hp.2
  refine wpAny_all hr (by simp) fun k hk => ?_
  simp only [List.mem_cons, List.not_mem_nil, or_false] at hk
  rcases hk with rfl | rfl
  · exact key _ _ hi h1
  · exact key _ _ hj h2
end Go.Proofs.Ythknkfggpdhdbaa.Mix
namespace Go.Proofs.Ythknkfggpdhdbaa
open Go.RowKit

/-- the numbers' values -/
def nV (l : List Nat) : List Value := l.map (fun x : Nat => .int .i64 (x : Int))
theorem nV_len (l : List Nat) : (nV l).length = l.length := by simp [nV]
theorem nV_get (l : List Nat) (i : Nat) (h : i < l.length) : (nV l)[i]? = some (.int .i64 (l[i] : Int)) := by simp [nV, h]
/-- a line at P, o: its slots in the block g, n of them; those who stand in it: q -/
structure LineAt (w : World) (P o g n : Nat) (q : List Nat) (first : Nat) (S : List Nat) : Prop where
  c0 : w.cell? ⟨P, o, none⟩ = some (.slice (some ⟨g, 0, none⟩) n n)
  c1 : w.cell? ⟨P, o + 1, none⟩ = some (.int .i64 first)
  c2 : w.cell? ⟨P, o + 2, none⟩ = some (.int .i64 q.length)
  fz : ∀ j, w.frozen? ⟨P, j, none⟩ = false
  row : w.ownsRow 0 3 1 (.slice (some ⟨g, 0, none⟩) n n) n (nV S)
  pos : 0 < n
  nb : n ≤ 100000
  fl : first < n
  ql : q.length ≤ n
  at' : ∀ k (hk : k < q.length), S[(first + k) % n]? = some q[k]
  ne : g ≠ P
theorem LineAt.Slen {w : World} {P o g n : Nat} {q : List Nat} {first : Nat} {S : List Nat} (h : LineAt w P o g n q first S) : S.length = n := by have := h.row.1; rw [nV_len] at this; omega
theorem LineAt.ch {S' : Nat → Prop} {w w' : World} {P o g n : Nat} {q : List Nat} {first : Nat} {S : List Nat} (h : LineAt w P o g n q first S) (k : Ch S' w w') (hP : ¬ S' P) (hg : ¬ S' g) : LineAt w' P o g n q first S :=
  ⟨k.cell h.c0 hP, k.cell h.c1 hP, k.cell h.c2 hP, fun j => (k.frozen (p := ⟨P, j, none⟩) (show P < w.heap.size from World.block_lt_of_cell? w ⟨P, o, none⟩ h.c0) hP).trans (h.fz j), k.owns h.row (fun x hx e => hg (by simp [Value.ownBlock] at hx; rw [hx]; exact e)), h.pos, h.nb, h.fl, h.ql, h.at', h.ne⟩
/-- another line of the same struct: its own cells stand -/
theorem LineAt.beside {S' : Nat → Prop} {w w' : World} {P o g n : Nat} {q : List Nat} {first : Nat} {S : List Nat} (h : LineAt w P o g n q first S) (k : Ch S' w w') (hg : ¬ S' g) (hc : ∀ j, o ≤ j → j ≤ o + 2 → w'.cell? ⟨P, j, none⟩ = w.cell? ⟨P, j, none⟩) (hf : ∀ j, w'.frozen? ⟨P, j, none⟩ = false) : LineAt w' P o g n q first S :=
  ⟨(hc o (by omega) (by omega)).trans h.c0, (hc (o + 1) (by omega) (by omega)).trans h.c1, (hc (o + 2) (by omega) (by omega)).trans h.c2, hf, k.owns h.row (fun x hx e => hg (by simp [Value.ownBlock] at hx; rw [hx]; exact e)), h.pos, h.nb, h.fl, h.ql, h.at', h.ne⟩
theorem LineAt.below {w w' : World} {P o g n : Nat} {q : List Nat} {first : Nat} {S : List Nat} (h : LineAt w P o g n q first S) (k : Below w.heap.size w w') : LineAt w' P o g n q first S := h.ch (Ch.ofBelow (S := fun _ => False) k) id id
theorem LineAt.cell {w : World} {P o g n : Nat} {q : List Nat} {first : Nat} {S : List Nat} (h : LineAt w P o g n q first S) (k : Nat) (hk : k < q.length) : w.cell? ⟨g, (first + k) % n, none⟩ = some (.int .i64 (q[k] : Int)) := by
  have hp := h.pos
  have hm : (first + k) % n < n := Nat.mod_lt _ hp
  rw [h.row.cellAt _ (by omega)]
  have := h.at' k hk
  simp [nV, this]

set_option maxHeartbeats 400000 in
theorem full_line (w : World) (P o g n : Nat) (q : List Nat) (first : Nat) (S : List Nat) (h : LineAt w P o g n q first S) :
    Calls Try.prog 42 #[.pointer (some ⟨P, o, none⟩)] w fun e w' => e = .returned (.bool ((q.length : Int) == (n : Int))) ∧ Below w.heap.size w w' := by
  have h0 := h.c0
  have h2 := h.c2
  go_enter Try.func42, Try.ntmps42
  go_wp2
  try go_region
  all_goals
    go_wp2
    go_ret
    exact ⟨rfl, (Below.refl _ _).drew⟩
theorem i64_small (x : Int) (h0 : -1000000 ≤ x) (h1 : x ≤ 1000000) : IntKind.i64.wrap x = x := by simp [IntKind.wrap, IntKind.bits, IntKind.signed]; omega

set_option maxHeartbeats 800000 in
theorem at_line (w : World) (P o g n : Nat) (q : List Nat) (first : Nat) (S : List Nat) (h : LineAt w P o g n q first S) (k : Nat) (hk : k < q.length) :
    Calls Try.prog 44 #[.pointer (some ⟨P, o, none⟩), .int .i64 k] w fun e w' => e = .returned (.int .i64 (q[k] : Int)) ∧ Below w.heap.size w w' := by
  have h0 := h.c0
  have h1 := h.c1
  have hc := h.cell k hk
  have hp := h.pos
  have hnb := h.nb
  have hfl := h.fl
  have hql := h.ql
  obtain ⟨x, hx⟩ : ∃ x, x = q[k] := ⟨_, rfl⟩
  rw [← hx] at hc ⊢
  obtain ⟨m, hm⟩ : ∃ m, m = (first + k) % n := ⟨_, rfl⟩
  rw [← hm] at hc
  have hml : m < n := by rw [hm]; exact Nat.mod_lt _ hp
  have hmI : ((first : Int) + (k : Int)) % (n : Int) = (m : Int) := by rw [hm]; simp
  have hmT : Int.tmod ((first : Int) + (k : Int)) (n : Int) = (m : Int) := by rw [Int.tmod_eq_emod_of_nonneg (by omega)]; exact hmI
  have w1 : IntKind.i64.wrap ((first : Int) + (k : Int)) = (first : Int) + (k : Int) := i64_small _ (by omega) (by omega)
  have n0 : ((n : Int) == 0) = false := beq_eq_false_iff_ne.2 (by omega)
  have m0 : (0 : Int) ≤ (m : Int) := by omega
  have m1 : (m : Int) < (n : Int) := by omega
  have m2 : ((m : Int)).toNat = m := by omega
  clear hx hm hk
  go_enter Try.func44, Try.ntmps44
  go_wp2
  try go_region
  all_goals
    go_wp2
    go_ret
    exact ⟨rfl, (Below.refl _ _).drew⟩
theorem mod_two (f k n : Nat) (hf : f < n) (hk : k ≤ n) : (f + k) % n = if f + k < n then f + k else f + k - n := by
  split
  · exact Nat.mod_eq_of_lt (by assumption)
  · rw [Nat.mod_eq_sub_mod (by omega), Nat.mod_eq_of_lt (by omega)]
theorem mod_ne (f k l n : Nat) (hf : f < n) (hk : k < l) (hl : l < n) : (f + k) % n ≠ (f + l) % n := by
  rw [mod_two f k n hf (by omega), mod_two f l n hf (by omega)]
  split <;> split <;> omega
theorem mod_next (f k n : Nat) : ((f + 1) % n + k) % n = (f + (k + 1)) % n := by
  rw [Nat.mod_add_mod]; congr 1; omega
set_option maxHeartbeats 800000 in
theorem leave_line (w : World) (P o g n : Nat) (x : Nat) (q : List Nat) (first : Nat) (S : List Nat) (h : LineAt w P o g n (x :: q) first S) :
    Calls Try.prog 43 #[.pointer (some ⟨P, o, none⟩)] w fun e w' => e = .returned (.int .i64 (x : Int)) ∧ LineAt w' P o g n q ((first + 1) % n) S ∧ Ch (fun b => b = P) w w' ∧ ∀ j, j ≠ o + 1 → j ≠ o + 2 → w'.cell? ⟨P, j, none⟩ = w.cell? ⟨P, j, none⟩ := by
  have HA : Hid _ := at_line w P o g n (x :: q) first S h 0 (by simp)
  have hp := h.pos
  have hnb := h.nb
  have hfl := h.fl
  have hql := h.ql
  simp only [List.length_cons] at hql
  obtain ⟨m, hm⟩ : ∃ m, m = (first + 1) % n := ⟨_, rfl⟩
  have hml : m < n := by rw [hm]; exact Nat.mod_lt _ hp
  have hmI : ((first : Int) + 1) % (n : Int) = (m : Int) := by rw [hm]; simp
  have hmT : Int.tmod ((first : Int) + 1) (n : Int) = (m : Int) := by rw [Int.tmod_eq_emod_of_nonneg (by omega)]; exact hmI
  have w1' : IntKind.i64.wrap ((first : Int) + 1) = (first : Int) + 1 := i64_small _ (by omega) (by omega)
  have n0 : ((n : Int) == 0) = false := beq_eq_false_iff_ne.2 (by omega)
  rw [← hm]
  have HM : Hid (m = (first + 1) % n) := hm
  obtain ⟨ql, hqle⟩ : ∃ ql, ql = q.length := ⟨_, rfl⟩
  have HQL : Hid (ql = q.length) := hqle
  have hqlb : ql ≤ 100000 := by omega
  clear hm
  go_enter Try.func43, Try.ntmps43
  go_wp2_with fail
  refine Calls.mono HA.out ?_
  rintro e w1 ⟨rfl, hb1⟩
  have h' := h.below hb1
  have hPl : P < w1.heap.size := World.block_lt_of_cell? w1 ⟨P, o, none⟩ h'.c0
  have d0 : w1.drew.cell? ⟨P, o, none⟩ = some (.slice (some ⟨g, 0, none⟩) n n) := h'.c0
  have d1 : w1.drew.cell? ⟨P, o + 1, none⟩ = some (.int .i64 first) := h'.c1
  have d2 : w1.drew.cell? ⟨P, o + 2, none⟩ = some (.int .i64 ((ql : Int) + 1)) := by
    have := h'.c2
    simp only [List.length_cons] at this
    rw [hqle]
    simpa using this
  have f1 : w1.drew.frozen? ⟨P, o + 1, none⟩ = false := h'.fz _
  have f2 : ∀ v, (w1.setCell ⟨P, o + 1, none⟩ v).drew.frozen? ⟨P, o + 2, none⟩ = false := fun v => by show (w1.setCell ⟨P, o + 1, none⟩ v).frozen? _ = false; rw [World.frozen?_setCell]; exact h'.fz _
  have e2 : ∀ v, (w1.setCell ⟨P, o + 1, none⟩ v).drew.cell? ⟨P, o + 2, none⟩ = some (.int .i64 ((ql : Int) + 1)) := fun v => by show (w1.setCell ⟨P, o + 1, none⟩ v).cell? _ = _; rw [World.cell?_setCell_other _ _ _ _ (by simp)]; exact d2
  have hfin : LineAt ((w1.setCell ⟨P, o + 1, none⟩ (.int .i64 (m : Int))).drew.setCell ⟨P, o + 2, none⟩ (.int .i64 (ql : Int))) P o g n q m S := by
    have hne := h'.ne
    have kk : Ch (fun b => b = P) w1 ((w1.setCell ⟨P, o + 1, none⟩ (.int .i64 (m : Int))).drew.setCell ⟨P, o + 2, none⟩ (.int .i64 (ql : Int))) := (((Ch.refl (fun b => b = P) w1).set ⟨P, o + 1, none⟩ _ rfl).drew).set ⟨P, o + 2, none⟩ _ rfl
    refine ⟨?_, ?_, ?_, fun j => ?_, kk.owns h'.row (fun b hb e => hne (by simp [Value.ownBlock] at hb; rw [hb, e])), hp, hnb, hml, by omega, fun k hk => ?_, hne⟩
    · rw [World.cell?_setCell_other _ _ _ _ (by simp)]; show (w1.setCell ⟨P, o + 1, none⟩ _).cell? _ = _; rw [World.cell?_setCell_other _ _ _ _ (by simp)]; exact d0
    · rw [World.cell?_setCell_other _ _ _ _ (by simp)]; show (w1.setCell ⟨P, o + 1, none⟩ _).cell? _ = _; exact World.cell?_setCell_same _ _ _ d1
    · rw [World.cell?_setCell_same _ _ _ (e2 _), hqle]
    · rw [World.frozen?_setCell]; show (w1.setCell ⟨P, o + 1, none⟩ _).frozen? _ = _; rw [World.frozen?_setCell]; exact h'.fz j
    · rw [HM.out, mod_next first k n]
      have := h'.at' (k + 1) (by simp; omega)
      simpa using this
  have hCh : Ch (fun b => b = P) w ((w1.setCell ⟨P, o + 1, none⟩ (.int .i64 (m : Int))).drew.setCell ⟨P, o + 2, none⟩ (.int .i64 (ql : Int))) := (((Ch.ofBelow (S := fun b => b = P) hb1).set ⟨P, o + 1, none⟩ _ rfl).drew).set ⟨P, o + 2, none⟩ _ rfl
  have wq : IntKind.i64.wrap ((ql : Int) + 1 - 1) = (ql : Int) := by rw [i64_small _ (by omega) (by omega)]; omega
  have wq2 : (ql : Int) + 1 - 1 = (ql : Int) := by omega
  have hoth : ∀ j, j ≠ o + 1 → j ≠ o + 2 → ((w1.setCell ⟨P, o + 1, none⟩ (.int .i64 (m : Int))).drew.setCell ⟨P, o + 2, none⟩ (.int .i64 (ql : Int))).cell? ⟨P, j, none⟩ = w.cell? ⟨P, j, none⟩ := fun j h1 h2 => by
    rw [World.cell?_setCell_other _ _ _ _ (by simp only [ne_eq, Addr.mk.injEq, true_and, and_true]; exact fun e => h2 e.symm)]
    show (w1.setCell ⟨P, o + 1, none⟩ _).cell? _ = _
    rw [World.cell?_setCell_other _ _ _ _ (by simp only [ne_eq, Addr.mk.injEq, true_and, and_true]; exact fun e => h1 e.symm)]
    exact hb1.cell (p := ⟨P, j, none⟩) (World.block_lt_of_cell? w ⟨P, o, none⟩ h.c0)
  have HF : Hid _ := hfin
  have HC : Hid _ := hCh
  have HO : Hid _ := hoth
  clear hfin hCh hoth hqle h' h HA
  go_wp2
  try go_region
  go_wp2
  go_ret
  exact ⟨rfl, HF.out, HC.out, HO.out⟩
set_option maxHeartbeats 800000 in
theorem join_line (w : World) (P o g n : Nat) (x : Nat) (q : List Nat) (first : Nat) (S : List Nat) (h : LineAt w P o g n q first S) (hq : q.length < n) :
    Calls Try.prog 41 #[.pointer (some ⟨P, o, none⟩), .int .i64 x] w fun e w' => e = .returned (.tuple #[]) ∧ (∃ S', LineAt w' P o g n (q ++ [x]) first S') ∧ Ch (fun b => b = P ∨ b = g) w w' ∧ ∀ j, j ≠ o + 1 → j ≠ o + 2 → w'.cell? ⟨P, j, none⟩ = w.cell? ⟨P, j, none⟩ := by
  have hp := h.pos
  have hnb := h.nb
  have hfl := h.fl
  have hSl := h.Slen
  obtain ⟨m, hm⟩ : ∃ m, m = (first + q.length) % n := ⟨_, rfl⟩
  have hml : m < n := by rw [hm]; exact Nat.mod_lt _ hp
  obtain ⟨ql, hqle⟩ : ∃ ql, ql = q.length := ⟨_, rfl⟩
  have hmI : ((first : Int) + (ql : Int)) % (n : Int) = (m : Int) := by rw [hm, hqle]; simp
  have hmT : Int.tmod ((first : Int) + (ql : Int)) (n : Int) = (m : Int) := by rw [Int.tmod_eq_emod_of_nonneg (by omega)]; exact hmI
  have w1' : IntKind.i64.wrap ((first : Int) + (ql : Int)) = (first : Int) + (ql : Int) := i64_small _ (by omega) (by omega)
  have n0 : ((n : Int) == 0) = false := beq_eq_false_iff_ne.2 (by omega)
  have m0 : (0 : Int) ≤ (m : Int) := by omega
  have m1 : (m : Int) < (n : Int) := by omega
  have m2 : ((m : Int)).toNat = m := by omega
  have hne := h.ne
  have d0 := h.c0
  have d1 := h.c1
  have d2 := h.c2
  rw [← hqle] at d2
  obtain ⟨hst, hgr⟩ := h.row.stored m (.int .i64 (x : Int))
  have hcm : ∃ z, w.cell? ⟨g, m, none⟩ = some z := by
    have := h.row.cellAt m (by omega)
    rw [List.getElem?_eq_getElem (by rw [nV_len]; omega)] at this
    exact ⟨_, this⟩
  obtain ⟨z, hz⟩ := hcm
  have hzd : w.drew.cell? ⟨g, m, none⟩ = some z := hz
  have hfg : w.drew.frozen? ⟨g, m, none⟩ = false := h.row.frozenAt m
  obtain ⟨W, hW⟩ : ∃ W, W = (w.setCell ⟨g, m, none⟩ (.int .i64 (x : Int))).drew := ⟨_, rfl⟩
  have k0 : Ch (fun b => b = g) w W := by rw [hW]; exact ((Ch.refl (fun b => b = g) w).set ⟨g, m, none⟩ _ rfl).drew
  have e0 := k0.cell d0 (fun e => hne e.symm)
  have e1 := k0.cell d1 (fun e => hne e.symm)
  have e2 := k0.cell d2 (fun e => hne e.symm)
  have f2 : W.frozen? ⟨P, o + 2, none⟩ = false := by rw [hW]; show (w.setCell ⟨g, m, none⟩ _).frozen? _ = _; rw [World.frozen?_setCell]; exact h.fz _
  have hrowW : W.ownsRow 0 3 1 (.slice (some ⟨g, 0, none⟩) n n) n (nV (S.set m x)) := by
    rw [hW]
    have e : nV (S.set m x) = (nV S).set m (.int .i64 (x : Int)) := by simp [nV, List.map_set]
    rw [e]
    exact hst
  have hfin : LineAt (W.setCell ⟨P, o + 2, none⟩ (.int .i64 ((ql : Int) + 1))) P o g n (q ++ [x]) first (S.set m x) := by
    have kk : Ch (fun b => b = P) W (W.setCell ⟨P, o + 2, none⟩ (.int .i64 ((ql : Int) + 1))) := (Ch.refl _ W).set _ _ rfl
    refine ⟨?_, ?_, ?_, fun j => ?_, kk.owns hrowW (fun b hb e => hne (by simp [Value.ownBlock] at hb; rw [hb, e])), hp, hnb, hfl, by simp; omega, fun k hk => ?_, hne⟩
    · rw [World.cell?_setCell_other _ _ _ _ (by simp)]; exact e0
    · rw [World.cell?_setCell_other _ _ _ _ (by simp)]; exact e1
    · rw [World.cell?_setCell_same _ _ _ e2, hqle]; simp
    · rw [World.frozen?_setCell, hW]; show (w.setCell ⟨g, m, none⟩ _).frozen? _ = _; rw [World.frozen?_setCell]; exact h.fz j
    · simp only [List.length_append, List.length_cons, List.length_nil] at hk
      by_cases hkq : k < q.length
      · rw [List.getElem?_set_ne (by rw [hm]; exact (mod_ne first k q.length n hfl hkq hq).symm), List.getElem_append_left hkq]
        exact h.at' k hkq
      · have hke : k = q.length := by omega
        subst hke
        rw [← hm, List.getElem?_set_self (by omega)]
        simp
  have hCh : Ch (fun b => b = P ∨ b = g) w (W.setCell ⟨P, o + 2, none⟩ (.int .i64 ((ql : Int) + 1))) := (k0.mono (fun _ _ e => .inr e)).set _ _ (.inl rfl)
  have wq : IntKind.i64.wrap ((ql : Int) + 1) = (ql : Int) + 1 := i64_small _ (by omega) (by omega)
  have hoth : ∀ j, j ≠ o + 1 → j ≠ o + 2 → (W.setCell ⟨P, o + 2, none⟩ (.int .i64 ((ql : Int) + 1))).cell? ⟨P, j, none⟩ = w.cell? ⟨P, j, none⟩ := fun j _ h2 => by
    rw [World.cell?_setCell_other _ _ _ _ (by simp only [ne_eq, Addr.mk.injEq, true_and, and_true]; exact fun e => h2 e.symm)]
    exact World.cell?_of_block (k0.block P (World.block_lt_of_cell? w ⟨P, o, none⟩ d0) (fun e => hne e.symm))
  have HF : Hid _ := hfin
  have HC : Hid _ := hCh
  have HO : Hid _ := hoth
  have HW : Hid ((w.setCell ⟨g, m, none⟩ (.int .i64 (x : Int))).drew = W) := hW.symm
  clear hfin hCh hoth hqle h hW hrowW hst hgr hm hz k0 hSl
  go_enter Try.func41, Try.ntmps41
  go_wp2
  try go_region
  rw [HW.out]
  go_wp2
  go_end0
  exact ⟨rfl, ⟨_, HF.out⟩, HC.out, HO.out⟩
end Go.Proofs.Ythknkfggpdhdbaa
