/-
  Layer 4: an address of version 6 read, texts with a tail of version 4 among them: in numbers.
-/
import Derived.Test.YtfeabifjnihooaaDoorAdU
namespace Go.Proofs.YtfeabifjnihooaaDoor
open Go.RowKit

theorem dtd_at {s : ByteArray} {m p : Nat} {l : List Nat} (h : dtd s m p [] = .inl l) (i : Nat) : l.getD i 0 < 256 := by
  obtain ⟨t, e1, _, e3⟩ := dtd_ok m p [] h
  rw [e1, List.nil_append, List.getD_eq_getElem?_getD]
  cases hi : t[i]? with
  | none => decide
  | some v => exact e3 v (List.mem_of_getElem? hi)
theorem grp_ok' {s : ByteArray} {X : SX} (h : SxOk s X) : SxOk s (grp s X).1 := by
  have k2 := scn_le s hxB (s.size - X.p) X.p h.p
  have hr := rmN_le X
  unfold grp grpq
  obtain ⟨q, hq⟩ : ∃ q, q = scP s hxB X.p := ⟨_, rfl⟩
  have hq2 : q ≤ s.size := by rw [hq]; exact k2
  rw [← hq]
  by_cases c1 : q = X.p
  · rw [if_pos (by simp [c1])]; exact h.fail _ _
  rw [if_neg (by simp [c1])]
  by_cases c2 : rmN X < X.g.length + (if tlB s X q then 2 else 1)
  · rw [if_pos (by simp only [decide_eq_true_eq]; exact c2)]; exact h.fail _ _
  rw [if_neg (by simp only [decide_eq_true_eq]; exact c2)]
  cases ht : tlB s X q with
  | true =>
    rw [ht] at c2
    simp only [if_true] at c2 ⊢
    cases hd : dtd s 4 X.p [] with
    | inr e => exact h.fail _ _
    | inl l =>
      refine ⟨Nat.le_refl _, by simp; omega, fun n hn => ?_⟩
      have a0 := dtd_at hd 0
      have a1 := dtd_at hd 1
      have a2 := dtd_at hd 2
      have a3 := dtd_at hd 3
      have hn' : n ∈ X.g ∨ n = 256 * l.getD 0 0 + l.getD 1 0 ∨ n = 256 * l.getD 2 0 + l.getD 3 0 := by
        have := List.mem_append.1 hn
        simpa using this
      rcases hn' with hn | rfl | rfl
      · exact h.b n hn
      · omega
      · omega
  | false =>
    rw [ht] at c2
    simp only [Bool.false_eq_true, if_false] at c2 ⊢
    by_cases c4 : 4 < q - X.p
    · rw [if_pos (by simp only [decide_eq_true_eq]; exact c4)]; exact h.fail _ _
    rw [if_neg (by simp only [decide_eq_true_eq]; exact c4)]
    refine ⟨hq2, by simp; omega, fun n hn => ?_⟩
    simp at hn
    rcases hn with hn | rfl
    · exact h.b n hn
    · exact hxN_small (by omega)
theorem grp_go' {s : ByteArray} {X : SX} (h : SxOk s X) (hg : (grp s X).2 = false) : X.p < (grp s X).1.p ∧ (grp s X).1.p < s.size ∧ 0 < (grp s X).1.g.length := by
  have k1 := scn_ge s hxB (s.size - X.p) X.p
  have k2 := scn_le s hxB (s.size - X.p) X.p h.p
  unfold grp grpq at hg ⊢
  obtain ⟨q, hq⟩ : ∃ q, q = scP s hxB X.p := ⟨_, rfl⟩
  have hq1 : X.p ≤ q := by rw [hq]; exact k1
  have hq2 : q ≤ s.size := by rw [hq]; exact k2
  rw [← hq] at hg ⊢
  by_cases c1 : q = X.p
  · rw [if_pos (by simp [c1])] at hg; cases hg
  rw [if_neg (by simp [c1])] at hg ⊢
  by_cases c2 : rmN X < X.g.length + (if tlB s X q then 2 else 1)
  · rw [if_pos (by simp only [decide_eq_true_eq]; exact c2)] at hg; cases hg
  rw [if_neg (by simp only [decide_eq_true_eq]; exact c2)] at hg ⊢
  cases ht : tlB s X q with
  | true =>
    rw [ht] at hg
    simp only [if_true] at hg
    cases hd : dtd s 4 X.p [] with
    | inr e => rw [hd] at hg; cases hg
    | inl l => rw [hd] at hg; cases hg
  | false =>
    rw [ht] at hg
    simp only [Bool.false_eq_true, if_false] at hg ⊢
    by_cases c4 : 4 < q - X.p
    · rw [if_pos (by simp only [decide_eq_true_eq]; exact c4)] at hg; cases hg
    rw [if_neg (by simp only [decide_eq_true_eq]; exact c4)] at hg ⊢
    have hg' : (q == s.size) = false := hg
    simp at hg'
    refine ⟨?_, ?_, ?_⟩
    · show X.p < q; omega
    · show q < s.size; omega
    · show 0 < (X.g ++ [_]).length; simp
theorem rnd_ok' {s : ByteArray} {X : SX} (h : SxOk s X) : SxOk s (rnd s X).1 := by
  unfold rnd
  split
  · rename_i h1
    simp at h1
    exact btw_ok (grp_ok' h) (grp_go' h h1.1).2.1
  · exact grp_ok' h
theorem rnd_less' {s : ByteArray} {X : SX} (h : SxOk s X) : mZ s (rnd s X) < s.size + 1 - X.p := by
  have hp := h.p
  unfold rnd
  split
  · rename_i h1
    simp at h1
    obtain ⟨k1, k2, _⟩ := grp_go' h h1.1
    unfold mZ
    split
    · rename_i h2
      simp at h2
      rcases btw_go (s := s) h1.2 with k3 | k3
      · exact absurd h2.2 k3
      · omega
    · omega
  · rename_i h1
    unfold mZ
    rw [if_neg h1]
    omega
/-- at a group's head the place is past the text's beginning just where something stands ahead -/
def SxHd (X : SX) : Prop := 0 < X.p ↔ (0 < X.g.length ∨ 0 ≤ X.gap)
theorem sx0_hd (s : ByteArray) : SxHd (sx0 s).1 := by
  unfold sx0 SxHd
  split
  · simp
  · simp
theorem btw_hd {s : ByteArray} {X : SX} (hl : 0 < X.g.length) (he : X.er = 0) (h : (btw s X).1.er = 0) : SxHd (btw s X).1 := by
  unfold btw at h ⊢
  unfold SxHd
  split
  · rename_i h1
    rw [if_pos h1] at h
    split
    · rename_i h2
      rw [if_pos h2, SX.fail_er he] at h
      exact absurd h (by decide)
    · exact ⟨fun _ => .inl hl, fun _ => by show 0 < X.p + 2; omega⟩
  · rename_i h1
    rw [if_neg h1] at h
    split
    · exact ⟨fun _ => .inl hl, fun _ => by show 0 < X.p + 1; omega⟩
    · rename_i h2
      rw [if_neg h2, SX.fail_er he] at h
      exact absurd h (by decide)
theorem rnd_hd {s : ByteArray} {X : SX} (h : SxOk s X) (hd : (rnd s X).2 = false) (he : (rnd s X).1.er = 0) : SxHd (rnd s X).1 := by
  unfold rnd at hd he ⊢
  split
  · rename_i h1
    rw [if_pos h1] at he
    simp at h1
    exact btw_hd (grp_go' h h1.1).2.2 h1.2 he
  · rename_i h1
    rw [if_neg h1] at hd he
    exact absurd (by rw [hd, he]; rfl) h1
/-- a group's two bytes -/
def gb (g : List Nat) (i : Nat) : Nat := if i % 2 = 0 then g.getD (i / 2) 0 / 256 else g.getD (i / 2) 0 % 256
theorem gb_lt {g : List Nat} (h : ∀ n ∈ g, n < 65536) (i : Nat) : gb g i < 256 := by
  have k : g.getD (i / 2) 0 < 65536 := by
    rw [List.getD_eq_getElem?_getD]
    cases hi : g[i / 2]? with
    | none => decide
    | some v => exact h v (List.mem_of_getElem? hi)
  unfold gb
  split <;> omega
theorem gb_snoc (g : List Nat) (n : Nat) (i : Nat) : gb (g ++ [n]) i = if i = 2 * g.length then n / 256 else if i = 2 * g.length + 1 then n % 256 else gb g i := by
  unfold gb
  rw [List.getD_eq_getElem?_getD, List.getD_eq_getElem?_getD]
  by_cases h0 : i = 2 * g.length
  · subst h0
    rw [if_pos (by omega), if_pos rfl, show 2 * g.length / 2 = g.length by omega, List.getElem?_append_right (Nat.le_refl _), Nat.sub_self]
    rfl
  · by_cases h1 : i = 2 * g.length + 1
    · subst h1
      rw [if_neg (by omega), if_neg (by omega), if_pos rfl, show (2 * g.length + 1) / 2 = g.length by omega, List.getElem?_append_right (Nat.le_refl _), Nat.sub_self]
      rfl
    · rw [if_neg h0, if_neg h1]
      by_cases h2 : i / 2 < g.length
      · rw [List.getElem?_append_left h2]
      · rw [List.getElem?_eq_none (by simp; omega), List.getElem?_eq_none (by omega)]
end Go.Proofs.YtfeabifjnihooaaDoor
