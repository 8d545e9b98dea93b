/-
  Layer 4: a text of an address of version 6, written group by group, in numbers (what weirlaw4.AddrForms writes).
-/
import Derived.Test.YteldiggaooeeeaaGreatDoorAdS
namespace Go.Proofs.YteldiggaooeeeaaGreatDoor
open Go.RowKit

/-- a digit, small or capital -/
def dgC (cap : Bool) (n : Nat) : Nat := if n < 10 then 48 + n else if cap then 55 + n else 87 + n
theorem dgC_at {cap : Bool} {n : Nat} (h : n < 16) : wth (dgC cap n) = (n : Int) ∧ hxB (dgC cap n) = true ∧ dgC cap n < 256 := by
  have : ∀ c : Bool, ∀ k : Fin 16, wth (dgC c k.val) = (k.val : Int) ∧ hxB (dgC c k.val) = true ∧ dgC c k.val < 256 := by decide
  exact this cap ⟨n, h⟩
/-- without the zeros ahead -/
def stZ : List Nat → List Nat
  | [] => []
  | a :: r => if a = 48 ∧ r ≠ [] then stZ r else a :: r
def w4 (cap : Bool) (h l : Nat) : List Nat := [dgC cap (h / 16), dgC cap (h % 16), dgC cap (l / 16), dgC cap (l % 16)]
/-- a group in one of its ways -/
def wrD (cap st : Bool) (h l : Nat) : List Nat := if st then stZ (w4 cap h l) else w4 cap h l
theorem w4_grp {cap : Bool} {h l : Nat} (hh : h < 256) (hl : l < 256) : Grp (w4 cap h l) (256 * h + l) := by
  have a := dgC_at (cap := cap) (show h / 16 < 16 by omega)
  have b := dgC_at (cap := cap) (show h % 16 < 16 by omega)
  have c := dgC_at (cap := cap) (show l / 16 < 16 by omega)
  have d := dgC_at (cap := cap) (show l % 16 < 16 by omega)
  refine ⟨by simp [w4], by simp [w4], fun e he => ?_, ?_⟩
  · simp only [w4, List.mem_cons, List.not_mem_nil, or_false] at he
    rcases he with rfl | rfl | rfl | rfl
    · exact a.2.1
    · exact b.2.1
    · exact c.2.1
    · exact d.2.1
  · simp only [w4, valH, List.foldl, a.1, b.1, c.1, d.1, Int.toNat_natCast]
    omega
theorem stZ_grp {v : Nat} : ∀ {ds : List Nat}, Grp ds v → Grp (stZ ds) v
  | [], h => h
  | a :: r, h => by
    unfold stZ
    by_cases hc : a = 48 ∧ r ≠ []
    · rw [if_pos hc]
      obtain ⟨rfl, hr⟩ := hc
      refine stZ_grp (ds := r) ⟨by cases r with | nil => exact absurd rfl hr | cons _ _ => simp, by have := h.hi; simp at this; omega, fun d hd => h.hx d (List.mem_cons_of_mem _ hd), ?_⟩
      have hv := h.v
      unfold valH at hv ⊢
      rw [List.foldl_cons] at hv
      exact hv
    · rw [if_neg hc]
      exact h
theorem wr_grp {cap st : Bool} {h l : Nat} (hh : h < 256) (hl : l < 256) : Grp (wrD cap st h l) (256 * h + l) := by
  unfold wrD
  split
  · exact stZ_grp (w4_grp hh hl)
  · exact w4_grp hh hl
theorem stZ_step {r : List Nat} (h : r ≠ []) : stZ (48 :: r) = stZ r := by
  conv => lhs; unfold stZ
  rw [if_pos ⟨rfl, h⟩]
theorem stZ_stop {a : Nat} {r : List Nat} (h : ¬ (a = 48 ∧ r ≠ [])) : stZ (a :: r) = a :: r := by
  unfold stZ
  rw [if_neg h]
theorem grp_len {ds : List Nat} {v : Nat} (h : Grp ds v) : ds.length ≤ 4 := h.hi

theorem gl_snoc (D : Nat → List Nat) (x : Nat → Nat) {a k : Nat} (h : a ≤ k) : (gl D x a (k + 1)).map Prod.fst = (gl D x a k).map Prod.fst ++ [D k] := by
  unfold gl
  rw [show k + 1 - a = (k - a) + 1 by omega, List.range'_concat, List.map_append, List.map_append]
  simp [show a + (k - a) = k by omega]
theorem gl_nil (D : Nat → List Nat) (x : Nat → Nat) {a k : Nat} (h : k ≤ a) : (gl D x a k).map Prod.fst = [] := by
  unfold gl
  rw [show k - a = 0 by omega]
  rfl
theorem jn_nil : jn [] = [] := rfl
theorem jn_snc (a : List Nat) : ∀ L : List (List Nat), L ≠ [] → jn (L ++ [a]) = jn L ++ 58 :: a
  | [], h => absurd rfl h
  | [b], _ => rfl
  | b :: c :: t, _ => by
    have h := jn_snc a (c :: t) (by simp)
    rw [List.cons_append, List.cons_append, jn_two, jn_two, List.append_assoc, List.cons_append]
    rw [List.cons_append] at h
    rw [h]
theorem gl_ne (D : Nat → List Nat) (x : Nat → Nat) {a k : Nat} (h : a < k) : (gl D x a k).map Prod.fst ≠ [] := by
  intro e
  have := congrArg List.length e
  rw [List.length_map, gl_len] at this
  simp at this
  omega
/-- the text up to the group k -/
def preT (D : Nat → List Nat) (x : Nat → Nat) (i j k : Nat) : List Nat := jn ((gl D x 0 (min k i)).map Prod.fst) ++ (if i < k ∧ i < j then 58 :: 58 :: jn ((gl D x j k).map Prod.fst) else [])
theorem preT_0 (D : Nat → List Nat) (x : Nat → Nat) (i j : Nat) : preT D x i j 0 = [] := by
  unfold preT
  rw [if_neg (by omega), Nat.zero_min]
  rfl
theorem preT_gap (D : Nat → List Nat) (x : Nat → Nat) {i j : Nat} (h : i < j) : preT D x i j (i + 1) = preT D x i j i ++ [58, 58] := by
  unfold preT
  rw [if_pos (by omega), if_neg (by omega), Nat.min_self, Nat.min_eq_right (by omega), gl_nil D x (show i + 1 ≤ j by omega), List.append_nil]
  rfl
theorem preT_in (D : Nat → List Nat) (x : Nat → Nat) {i j k : Nat} (h1 : i < k) (h2 : k < j) : preT D x i j (k + 1) = preT D x i j k := by
  unfold preT
  rw [if_pos (by omega), if_pos (by omega), Nat.min_eq_right (by omega), Nat.min_eq_right (by omega), gl_nil D x (show k + 1 ≤ j by omega), gl_nil D x (show k ≤ j by omega)]
/-- a group: behind a : unless it is the first, or the first behind the gap -/
theorem preT_grp (D : Nat → List Nat) (x : Nat → Nat) {i j k : Nat} (hij : i ≤ j) (h : k < i ∨ (i < j ∧ j ≤ k)) : preT D x i j (k + 1) = preT D x i j k ++ (if 0 < k ∧ k ≠ j then 58 :: D k else D k) := by
  by_cases h1 : k < i
  · unfold preT
    rw [if_neg (show ¬ (i < k + 1 ∧ i < j) by omega), if_neg (show ¬ (i < k ∧ i < j) by omega), Nat.min_eq_left (by omega), Nat.min_eq_left (by omega), List.append_nil, List.append_nil, gl_snoc D x (Nat.zero_le k)]
    by_cases h0 : k = 0
    · subst h0
      rw [if_neg (by omega), gl_nil D x (Nat.le_refl 0)]
      rfl
    · rw [jn_snc _ _ (gl_ne D x (by omega))]
      by_cases hj : k = j
      · omega
      · rw [if_pos ⟨by omega, hj⟩]
  · unfold preT
    rw [if_pos (show i < k + 1 ∧ i < j by omega), if_pos (show i < k ∧ i < j by omega), Nat.min_eq_right (by omega), Nat.min_eq_right (by omega), gl_snoc D x (show j ≤ k by omega), List.append_assoc]
    by_cases hj : k = j
    · subst hj
      rw [if_neg (by omega), gl_nil D x (Nat.le_refl k)]
      rfl
    · rw [jn_snc _ _ (gl_ne D x (by omega)), if_pos ⟨by omega, hj⟩]
      rfl
/-- the ends of the groups that are left out, as AddrForms takes them -/
def FOk (n i j : Nat) : Prop := (i < j ∧ j ≤ n) ∨ (i = n ∧ j = n)
theorem preT_flat (D : Nat → List Nat) (x : Nat → Nat) {i j : Nat} (h : FOk 8 i j) : preT D x i j 8 = txt D x i j false := by
  unfold preT txt
  rcases h with h | h
  · rw [if_pos (by omega), if_pos h.1, Nat.min_eq_right (by omega)]
    simp [tx, dl, nT]
  · obtain ⟨rfl, rfl⟩ := h
    rw [if_neg (by omega), if_neg (by omega)]
    simp [tx, dl, nT]
theorem preT_tail (D : Nat → List Nat) (x : Nat → Nat) {i j : Nat} (h : FOk 6 i j) : preT D x i j 6 ++ (if j ≠ 6 ∨ i = j then 58 :: dots (x 12) (x 13) (x 14) (x 15) else dots (x 12) (x 13) (x 14) (x 15)) = txt D x i j true := by
  unfold preT txt
  rcases h with h | h
  · rw [if_pos (by omega), if_pos h.1, Nat.min_eq_right (by omega), List.append_assoc]
    show _ ++ _ = _ ++ (58 :: 58 :: jn ((gl D x j 6).map Prod.fst ++ [dots (x 12) (x 13) (x 14) (x 15)]))
    by_cases hj : j = 6
    · subst hj
      rw [if_neg (by omega), gl_nil D x (Nat.le_refl 6)]
      rfl
    · rw [if_pos (.inl hj), jn_snc _ _ (gl_ne D x (by omega))]
      rfl
  · obtain ⟨rfl, rfl⟩ := h
    rw [if_neg (by omega), if_pos (.inr rfl), if_neg (by omega), List.append_nil, Nat.min_self]
    show _ = jn ((gl D x 0 6).map Prod.fst ++ [dots (x 12) (x 13) (x 14) (x 15)])
    rw [jn_snc _ _ (gl_ne D x (by omega))]
theorem preT_len {D : Nat → List Nat} (x : Nat → Nat) (hD : ∀ k, (D k).length ≤ 4) (i j : Nat) : ∀ k, (preT D x i j k).length ≤ 5 * k + 5 * k + 2 := by
  intro k
  have hg : ∀ a b, (jn ((gl D x a b).map Prod.fst)).length ≤ 5 * (b - a) := by
    intro a b
    have := jn_max 4 ((gl D x a b).map Prod.fst) (by
      intro y hy
      obtain ⟨g, hg, rfl⟩ := List.mem_map.1 hy
      unfold gl at hg
      obtain ⟨m, _, rfl⟩ := List.mem_map.1 hg
      exact hD m)
    rw [List.length_map, gl_len] at this
    exact this
  unfold preT
  rw [List.length_append]
  have h1 := hg 0 (min k i)
  have h2 := hg j k
  split
  · simp only [List.length_cons]; omega
  · simp only [List.length_nil]; omega
theorem jn_memV : ∀ (L : List (List Nat)) (c : Nat), c ∈ jn L → c = 58 ∨ ∃ a ∈ L, c ∈ a
  | [], c, h => by cases h
  | [a], c, h => .inr ⟨a, List.mem_cons_self .., h⟩
  | a :: b :: t, c, h => by
    rw [jn_two, List.mem_append, List.mem_cons] at h
    rcases h with h | h | h
    · exact .inr ⟨a, List.mem_cons_self .., h⟩
    · exact .inl h
    · rcases jn_memV (b :: t) c h with h | ⟨y, hy, hc⟩
      · exact .inl h
      · exact .inr ⟨y, List.mem_cons_of_mem _ hy, hc⟩
theorem hxB_ltV {c : Nat} (h : hxB c = true) : c < 256 := by
  unfold hxB wth dgB at h
  by_cases h1 : 48 ≤ c ∧ c ≤ 57
  · omega
  · by_cases h2 : 97 ≤ c ∧ c ≤ 102
    · omega
    · by_cases h3 : 65 ≤ c ∧ c ≤ 70
      · omega
      · have e1 : (decide (48 ≤ c) && decide (c ≤ 57)) = false := by rw [← Bool.decide_and]; exact decide_eq_false h1
        have e2 : (decide (97 ≤ c) && decide (c ≤ 102)) = false := by rw [← Bool.decide_and]; exact decide_eq_false h2
        have e3 : (decide (65 ≤ c) && decide (c ≤ 70)) = false := by rw [← Bool.decide_and]; exact decide_eq_false h3
        rw [e1, e2, e3] at h
        simp at h
theorem dgB_ltV {c : Nat} (h : dgB c = true) : c < 256 := by unfold dgB at h; simp at h; omega
theorem txt_lt {D : Nat → List Nat} {x : Nat → Nat} {i j : Nat} {tail : Bool} (hx : ∀ k, k < 16 → x k < 256) (hD : ∀ k, ∀ c ∈ D k, c < 256) : ∀ c ∈ txt D x i j tail, c < 256 := by
  have hg : ∀ a b, ∀ c ∈ (gl D x a b).map Prod.fst, ∀ e ∈ c, e < 256 := by
    intro a b c hc
    obtain ⟨g, hg, rfl⟩ := List.mem_map.1 hc
    unfold gl at hg
    obtain ⟨m, _, rfl⟩ := List.mem_map.1 hg
    exact hD m
  have hdl : ∀ c ∈ dl (tx x tail), ∀ e ∈ c, e < 256 := by
    intro c hc
    cases tail with
    | false => cases hc
    | true =>
      simp [tx, dl] at hc
      subst hc
      intro e he
      rcases dots_no (hx 12 (by omega)) (hx 13 (by omega)) (hx 14 (by omega)) (hx 15 (by omega)) he with h | h
      · exact dgB_ltV h
      · omega
  have hj : ∀ L : List (List Nat), (∀ c ∈ L, ∀ e ∈ c, e < 256) → ∀ e ∈ jn L, e < 256 := by
    intro L hL e he
    rcases jn_memV L e he with rfl | ⟨a, ha, hc⟩
    · omega
    · exact hL a ha e hc
  have ha : ∀ a b, ∀ c ∈ (gl D x a b).map Prod.fst ++ dl (tx x tail), ∀ e ∈ c, e < 256 := by
    intro a b c hc
    rcases List.mem_append.1 hc with h | h
    · exact hg a b c h
    · exact hdl c h
  intro c hc
  unfold txt at hc
  split at hc
  · rw [List.mem_append, List.mem_cons, List.mem_cons] at hc
    rcases hc with h | h | h | h
    · exact hj _ (hg 0 i) c h
    · omega
    · omega
    · exact hj _ (ha j (nT tail)) c h
  · exact hj _ (ha 0 (nT tail)) c hc
end Go.Proofs.YteldiggaooeeeaaGreatDoor
