/-
  weirlaw4.AddrForms: the texts that it writes, and that they are read as they were written.
-/
import Derived.Test.YtfeabifjnihooaaDoorAdV3
import Derived.Test.YtfeabifjnihooaaDoorAdX9
namespace Go.Proofs.YtfeabifjnihooaaDoor
open Go.RowKit Go.Maps

/-- the group k in the way that the list tells -/
def dW (x : Nat → Nat) (ys : List Int) (k : Nat) : List Nat := wrD (cpW (ys.getD k 0)) (stW (ys.getD k 0)) (x (2 * k)) (x (2 * k + 1))
theorem stZ_len : ∀ L : List Nat, (stZ L).length ≤ L.length ∧ ∀ c ∈ stZ L, c ∈ L
  | [] => ⟨Nat.le_refl _, fun _ h => h⟩
  | a :: r => by
    unfold stZ
    split
    · obtain ⟨h1, h2⟩ := stZ_len r
      exact ⟨by simp; omega, fun c hc => List.mem_cons_of_mem _ (h2 c hc)⟩
    · exact ⟨Nat.le_refl _, fun _ h => h⟩
theorem wrD_len (c s : Bool) (h l : Nat) : (wrD c s h l).length ≤ 4 := by
  unfold wrD
  split
  · have := (stZ_len (w4 c h l)).1
    simp [w4] at this ⊢
    exact this
  · simp [w4]
theorem dW_len (x : Nat → Nat) (ys : List Int) (k : Nat) : (dW x ys k).length ≤ 4 := wrD_len _ _ _ _
theorem dW_grp {x : Nat → Nat} (hx : ∀ i, i < 16 → x i < 256) (ys : List Int) {k : Nat} (h : k < 8) : Grp (dW x ys k) (gx x k) := wr_grp (hx _ (by omega)) (hx _ (by omega))
theorem dgC_hi {cap : Bool} {n : Nat} (h : n ≤ 15) : dgC cap n < 256 := (dgC_at (cap := cap) (n := n) (by omega)).2.2
/-- what AddrForms looks at before it leaves groups out -/
def Zr (x : Nat → Nat) (I J k : Nat) : Prop := ∀ m, I ≤ m → m < k → m < J → x (2 * m) = 0 ∧ x (2 * m + 1) = 0
theorem Zr.step {x : Nat → Nat} {I J k : Nat} (h : Zr x I J k) (h0 : x (2 * k) = 0 ∧ x (2 * k + 1) = 0) : Zr x I J (k + 1) := by
  intro m h1 h2 h3
  by_cases e : m = k
  · rw [e]; exact h0
  · exact h m h1 (by omega) h3
def DD (x : Nat → Nat) (ys : List Int) (k : Nat) : List Nat := if k < 8 then dW x ys k else []
theorem DD_len (x : Nat → Nat) (ys : List Int) (k : Nat) : (DD x ys k).length ≤ 4 := by
  unfold DD
  split
  · exact dW_len x ys k
  · simp
theorem DD_at (x : Nat → Nat) (ys : List Int) {k : Nat} (h : k < 8) : DD x ys k = dW x ys k := if_pos h
theorem forms_read {x : Nat → Nat} (hx : ∀ i, i < 16 → x i < 256) (ys : List Int) {I J k : Nat} {tail : Bool} (hf : FOk (nT tail) I J) (hz : Zr x I J k) (hk : J ≤ k) :
    ∃ y, pIP (txB (txt (DD x ys) x I J tail)) = .inl (6, y) ∧ same16 y x = true := by
  have hD : ∀ k, ∀ c ∈ DD x ys k, c < 256 := by
    intro k c hc
    unfold DD at hc
    by_cases h : k < 8
    · rw [if_pos h] at hc
      exact hxB_ltV ((dW_grp hx ys h).hx c hc)
    · rw [if_neg h] at hc
      cases hc
  have hn : nT tail ≤ 8 := by cases tail <;> decide
  obtain ⟨y, h1, h2⟩ := parse_six (s := txB (txt (DD x ys) x I J tail)) (x := x) (D := DD x ys) (i := I) (j := J) (tail := tail) hx (fun k hk => by rw [DD_at x ys (by omega)]; exact dW_grp hx ys (by omega)) (by rcases hf with h | h <;> omega) (fun m h1 h2 => hz m h1 (by omega) h2) (txB_drp (txt_lt hx hD))
  exact ⟨y, h1, (same16_iff y x).2 h2⟩
theorem Ary_all {w : World} {O : Nat} {x : Nat → Nat} (h : AryAt w O x) : w.rangeAt O 0 (arCells x).toList := by
  intro j v hv
  have hl : j < 16 := (List.getElem?_eq_some_iff.1 hv).1
  rw [Nat.zero_add, h.byte j hl]
  rw [← arC_byte x j hl, ← Array.getElem?_toList]
  exact hv
end Go.Proofs.YtfeabifjnihooaaDoor
