/-
  Many cursors and builders beside one another: whose is a block, by colours.
-/
import Derived.Test.YtcgfdhmegagjdaaBuilder4
import Derived.Test.YtcgfdhmegagjdaaCursor
namespace Go.Proofs.Ytcgfdhmegagjdaa
open Go.RowKit

theorem Try.infoCur : (Try.prog.info? 54).map (fun i => (i.zero, i.size, i.bytes)) = some (some (.pointer none), 1, 8) := by kernel_rfl
theorem Try.infoBld : (Try.prog.info? 24).map (fun i => (i.zero, i.size, i.bytes)) = some (some (.pointer none), 1, 8) := by kernel_rfl
theorem Cur.ch {S : Nat → Prop} {w w' : World} {B : Nat} {a : Option Addr} {len p : Nat} (h : Cur w B a len p) (k : Ch S w w') (hS : ¬ S B) : Cur w' B a len p :=
  ⟨k.cell h.c0 hS, k.cell h.c1 hS, fun j => (k.frozen (p := ⟨B, j, none⟩) h.lt hS).trans (h.fz j), Nat.lt_of_lt_of_le h.lt k.size⟩
def upd {α : Type} (f : Nat → α) (i : Nat) (x : α) (j : Nat) : α := if j = i then x else f j
theorem upd_same {α : Type} (f : Nat → α) (i : Nat) (x : α) : upd f i x i = x := if_pos rfl
theorem upd_other {α : Type} (f : Nat → α) (i : Nat) (x : α) {j : Nat} (h : j ≠ i) : upd f i x j = f j := if_neg h
def ptrs (f : Nat → Nat) (i : Nat) : List Value := (List.range i).map (fun j => Value.pointer (some ⟨f j, 0, none⟩))
theorem ptrs_len (f : Nat → Nat) (i : Nat) : (ptrs f i).length = i := by simp [ptrs]
theorem ptrs_get (f : Nat → Nat) (i j : Nat) (h : j < i) : (ptrs f i)[j]? = some (.pointer (some ⟨f j, 0, none⟩)) := by simp [ptrs, h]
theorem ptrs_add (f : Nat → Nat) (i x : Nat) : ptrs (upd f i x) (i + 1) = ptrs f i ++ [.pointer (some ⟨x, 0, none⟩)] := by
  unfold ptrs
  rw [List.range_succ, List.map_append]
  congr 1
  · refine List.map_congr_left (fun j hj => ?_)
    rw [upd_other _ _ _ (by have := List.mem_range.1 hj; omega)]
  · simp [upd_same]

structure FamO (w : World) (col : Nat → Nat) (a : Option Addr) (size : Nat) (cB dB : Nat → Nat) (dv : Nat → Value) (ex : Nat → List Nat) (base i : Nat) : Prop where
  cur : ∀ j, j < i → Cur w (cB j) a size (if j ≤ size then j else 0)
  bld : ∀ j, j < i → Bld w (dB j) (dv j) 3 (ex j)
  cC : ∀ j, j < i → col (cB j) = 2 * j + 2
  cD : ∀ j, j < i → ∀ k, BS (dB j) (dv j) k → col k = 2 * j + 1 ∧ base ≤ k
theorem FamO.ch {S : Nat → Prop} {w w' : World} {col : Nat → Nat} {a : Option Addr} {size : Nat} {cB dB : Nat → Nat} {dv : Nat → Value} {ex : Nat → List Nat} {base i : Nat} (h : FamO w col a size cB dB dv ex base i) (k : Ch S w w') (hS : ∀ x, S x → col x = 0) : FamO w' col a size cB dB dv ex base i :=
  ⟨fun j hj => (h.cur j hj).ch k (fun s => by have := h.cC j hj; have := hS _ s; omega), fun j hj => (h.bld j hj).ch k (fun x hx s => by have := (h.cD j hj x hx).1; have := hS _ s; omega), h.cC, h.cD⟩
theorem FamO.below {w w' : World} {col : Nat → Nat} {a : Option Addr} {size : Nat} {cB dB : Nat → Nat} {dv : Nat → Value} {ex : Nat → List Nat} {base i : Nat} (h : FamO w col a size cB dB dv ex base i) (k : Below w.heap.size w w') : FamO w' col a size cB dB dv ex base i :=
  h.ch (Ch.ofBelow (S := fun _ => False) k) (fun _ s => s.elim)
theorem FamO.nil (w : World) (a : Option Addr) (size base : Nat) : FamO w (fun _ => 0) a size (fun _ => 0) (fun _ => 0) (fun _ => .slice none 0 0) (fun _ => []) base 0 :=
  ⟨fun j hj => by omega, fun j hj => by omega, fun j hj => by omega, fun j hj => by omega⟩
theorem FamO.add {w w' : World} {col : Nat → Nat} {a : Option Addr} {size : Nat} {cB dB : Nat → Nat} {dv : Nat → Value} {ex : Nat → List Nat} {base i : Nat} (h : FamO w col a size cB dB dv ex base i) (k : Below w.heap.size w w') (hbase : base ≤ w.heap.size)
    (C D : Nat) (v : Value) (l : List Nat) (hC : Cur w' C a size (if i ≤ size then i else 0)) (hD : Bld w' D v 3 l) (oC : w.heap.size ≤ C) (oD : w.heap.size ≤ D) (oV : ∀ q, v.ownBlock = some q → w.heap.size ≤ q ∧ q ≠ C) (oCD : C ≠ D) :
    ∃ col', FamO w' col' a size (upd cB i C) (upd dB i D) (upd dv i v) (upd ex i l) base (i + 1) ∧ (∀ x, x < w.heap.size → col' x = col x) ∧ (∀ x, w'.heap.size ≤ x → col' x = 0) := by
  have h1 := h.below k
  have lC := hC.lt
  have lD := hD.lt
  have lV := fun q hq => (hD.own.lt q hq).2
  refine ⟨fun x => if x < w.heap.size then col x else if x = C then 2 * i + 2 else if x = D ∨ v.ownBlock = some x then 2 * i + 1 else 0, ⟨?_, ?_, ?_, ?_⟩, ?_, ?_⟩
  · intro j hj
    by_cases e : j = i
    · subst e; rw [upd_same]; exact hC
    · rw [upd_other _ _ _ e]; exact h1.cur j (by omega)
  · intro j hj
    by_cases e : j = i
    · subst e; rw [upd_same, upd_same, upd_same]; exact hD
    · rw [upd_other _ _ _ e, upd_other _ _ _ e, upd_other _ _ _ e]; exact h1.bld j (by omega)
  · intro j hj
    by_cases e : j = i
    · subst e; rw [upd_same]; simp [show ¬ C < w.heap.size by omega]
    · rw [upd_other _ _ _ e]
      have := (h.cur j (by omega)).lt
      simp [this]
      exact h.cC j (by omega)
  · intro j hj x hx
    by_cases e : j = i
    · subst e
      rw [upd_same, upd_same] at hx
      have hxl : w.heap.size ≤ x := by
        rcases hx with hx | hx
        · omega
        · exact (oV x hx).1
      have hxC : x ≠ C := by
        rcases hx with hx | hx
        · omega
        · exact (oV x hx).2
      refine ⟨?_, by omega⟩
      have hx' : x = D ∨ v.ownBlock = some x := hx
      simp [show ¬ x < w.heap.size by omega, hxC, hx']
    · rw [upd_other _ _ _ e, upd_other _ _ _ e] at hx
      have hb := h.bld j (by omega)
      have hxl : x < w.heap.size := by
        rcases hx with hx | hx
        · have := hb.lt; omega
        · exact (hb.own.lt x hx).2
      have := h.cD j (by omega) x hx
      refine ⟨?_, this.2⟩
      simp [hxl, this.1]
  · intro x hx; simp [hx]
  · intro x hx
    have hk := k.size
    have e1 : ¬ x < w.heap.size := by omega
    have e2 : x ≠ C := by omega
    have e3 : ¬ (x = D ∨ v.ownBlock = some x) := by
      rintro (e | e)
      · omega
      · have := lV x e; omega
    simp [e1, e2, e3]
/-- behind one more call of the builder n -/
theorem FamO.turn {w w' : World} {col : Nat → Nat} {a : Option Addr} {size : Nat} {cB dB : Nat → Nat} {dv : Nat → Value} {ex : Nat → List Nat} {base i : Nat} (h : FamO w col a size cB dB dv ex base i) (n : Nat) (hn : n < i) (k : Ch (BS (dB n) (dv n)) w w') (v : Value) (l : List Nat) (hD : Bld w' (dB n) v 3 l) :
    (∀ j, j < i → Cur w' (cB j) a size (if j ≤ size then j else 0)) ∧ (∀ j, j < i → ∃ v', Bld w' (dB j) v' 3 (upd ex n l j)) := by
  refine ⟨fun j hj => (h.cur j hj).ch k (fun s => by have := h.cC j hj; have := (h.cD n hn _ s).1; omega), fun j hj => ?_⟩
  by_cases e : j = n
  · subst e; rw [upd_same]; exact ⟨v, hD⟩
  · rw [upd_other _ _ _ e]
    exact ⟨dv j, (h.bld j hj).ch k (fun x hx s => by have := (h.cD j hj x hx).1; have := (h.cD n hn _ s).1; omega)⟩
end Go.Proofs.Ytcgfdhmegagjdaa
