/-
  A struct of lists of rows: its fields lead to lists of slices, each of which leads to a row of its own; whose is a block, by colours.
-/
import Derived.Test.YtcgfdhmegagjdaaPackT
namespace Go.Proofs.Ytcgfdhmegagjdaa.Ls
open Go.RowKit

def upd {α : Type} (f : Nat → α) (i : Nat) (x : α) (j : Nat) : α := if j = i then x else f j
theorem upd_same {α : Type} (f : Nat → α) (i : Nat) (x : α) : upd f i x i = x := if_pos rfl
theorem upd_other {α : Type} (f : Nat → α) (i : Nat) (x : α) {j : Nat} (h : j ≠ i) : upd f i x j = f j := if_neg h
/-- K fields; ty: what the lists hold; et: what the rows hold; colours: 1 the struct, 2 + f the list f, 2 + K + K i + f the row i of the list f, 0 all else -/
structure LS (K : Nat) (ty et : Nat → TypeId) (w0 w : World) (X : Nat) (col : Nat → Nat) (N : Nat → Nat) (lv : Nat → Value) (R : Nat → Nat → Value) (C : Nat → Nat → List Value) : Prop where
  cell : ∀ f, f < K → w.cell? ⟨X, f, none⟩ = some (lv f)
  fz : ∀ j, w.frozen? ⟨X, j, none⟩ = false
  lst : ∀ f, f < K → w.ownsRow w0.heap.size (ty f) 1 (lv f) (N f) ((List.range (N f)).map (R f))
  row : ∀ f, f < K → ∀ i, i < N f → w.ownsRow w0.heap.size (et f) 1 (R f i) (C f i).length (C f i)
  cX : col X = 1
  cL : ∀ f, f < K → ∀ q, (lv f).ownBlock = some q → col q = 2 + f
  cR : ∀ f, f < K → ∀ i, i < N f → ∀ q, (R f i).ownBlock = some q → col q = 2 + K + K * i + f
  loX : w0.heap.size ≤ X
  ltX : X < w.heap.size
  top : ∀ q, w.heap.size ≤ q → col q = 0
  ch : Below w0.heap.size w0 w
variable {K : Nat} {ty et : Nat → TypeId} {w0 w w' w2 : World} {X : Nat} {col : Nat → Nat} {N : Nat → Nat} {lv : Nat → Value} {R : Nat → Nat → Value} {C : Nat → Nat → List Value}
theorem cells1 (h1 : ∀ f, f < K → w.cell? ⟨X, f, none⟩ = some (lv f)) (hX : X < w.heap.size) {S : Nat → Prop} (k : Ch S w w') (hS : ¬ S X) : ∀ f, f < K → w'.cell? ⟨X, f, none⟩ = some (lv f) := by
  intro f hf
  rw [World.cell?_of_block (k.block X hX hS)]
  exact h1 f hf
theorem LS.go {S : Nat → Prop} (h : LS K ty et w0 w X col N lv R C) (k : Ch S w w') (hS : ∀ q, q < w.heap.size → S q → col q = 0) (hlo : ∀ q, S q → w0.heap.size ≤ q) : LS K ty et w0 w' X col N lv R C := by
  refine ⟨cells1 h.cell h.ltX k (fun s => by have := hS X h.ltX s; have := h.cX; omega), fun j => (k.frozen (p := ⟨X, j, none⟩) h.ltX (fun s => by have := hS X h.ltX s; have := h.cX; omega)).trans (h.fz j), fun f hf => k.owns (h.lst f hf) (fun q hq s => ?_), fun f hf i hi => k.owns (h.row f hf i hi) (fun q hq s => ?_), h.cX, h.cL, h.cR, h.loX, Nat.lt_of_lt_of_le h.ltX k.size, fun q hq => h.top q (Nat.le_trans k.size hq), h.ch.trans (k.below hlo h.ch.size)⟩
  · have := hS q ((h.lst f hf).lt q hq).2 s; have := h.cL f hf q hq; omega
  · have := hS q ((h.row f hf i hi).lt q hq).2 s; have := h.cR f hf i hi q hq; omega
theorem LS.below (h : LS K ty et w0 w X col N lv R C) (k : Below w.heap.size w w') : LS K ty et w0 w' X col N lv R C := h.go (Ch.ofBelow (S := none_) k) (fun _ _ s => s.elim) (fun _ s => s.elim)
theorem div_inj {K i j f g : Nat} (hf : f < K) (hg : g < K) (h : K * i + f = K * j + g) : i = j ∧ f = g := by
  have e1 : (K * i + f) / K = i := by rw [Nat.mul_add_div (by omega), Nat.div_eq_of_lt hf, Nat.add_zero]
  have e2 : (K * j + g) / K = j := by rw [Nat.mul_add_div (by omega), Nat.div_eq_of_lt hg, Nat.add_zero]
  have : i = j := by rw [← e1, h, e2]
  subst this
  exact ⟨rfl, by omega⟩
/-- rows of one field lie apart -/
theorem LS.dis (h : LS K ty et w0 w X col N lv R C) {f g i j : Nat} (hf : f < K) (hg : g < K) (hi : i < N f) (hj : j < N g) (hne : f ≠ g ∨ i ≠ j) : ∀ q, (R f i).ownBlock = some q → (R g j).ownBlock ≠ some q := by
  intro q hq hq'
  have h1 := h.cR f hf i hi q hq
  have h2 := h.cR g hg j hj q hq'
  have := div_inj hf hg (show K * i + f = K * j + g by omega)
  omega
/-- one more row in the list f -/
theorem LS.push (h : LS K ty et w0 w X col N lv R C) (f : Nat) (hf : f < K) (r : Value) (c : List Value) (hr : w.ownsRow w0.heap.size (et f) 1 r c.length c) (hc : ∀ q, r.ownBlock = some q → col q = 0) (lv' : Value)
    (ho : w2.ownsRow w0.heap.size (ty f) 1 lv' (N f + 1) ((List.range (N f)).map (R f) ++ [r])) (hq : ∀ q, lv'.ownBlock = some q → (lv f).ownBlock = some q ∨ w.heap.size ≤ q) (k : Ch (fun x => (lv f).ownBlock = some x) w w2) :
    ∃ col', LS K ty et w0 (w2.setCell ⟨X, f, none⟩ lv') X col' (upd N f (N f + 1)) (upd lv f lv') (upd R f (upd (R f) (N f) r)) (upd C f (upd (C f) (N f) c)) ∧ (∀ q, q < w.heap.size → r.ownBlock ≠ some q → col' q = col q) ∧ Ch (fun x => x = X ∨ (lv f).ownBlock = some x) w (w2.setCell ⟨X, f, none⟩ lv') := by
  have hX1 := h.cX
  have hXn : ∀ q, (lv f).ownBlock = some q → q ≠ X := fun q hq e => by have := h.cL f hf q hq; rw [e] at this; omega
  have c2 : w2.cell? ⟨X, f, none⟩ = some (lv f) := cells1 h.cell h.ltX k (fun s => hXn X s rfl) f hf
  have kk : Ch (fun x => x = X ∨ (lv f).ownBlock = some x) w (w2.setCell ⟨X, f, none⟩ lv') := (k.mono (fun _ _ s => .inr s)).set _ _ (.inl rfl)
  have ks : Ch (fun x => x = X) w2 (w2.setCell ⟨X, f, none⟩ lv') := (Ch.refl _ _).set _ _ rfl
  have hrl : ∀ q, r.ownBlock = some q → q < w.heap.size := fun q hq => (hr.lt q hq).2
  have hlX : ∀ q, lv'.ownBlock = some q → q ≠ X := fun q hq' e => by
    rcases hq q hq' with s | s
    · exact hXn q s e
    · have := h.ltX; omega
  have hlr : ∀ q, r.ownBlock = some q → lv'.ownBlock ≠ some q := fun q h1 h2 => by
    rcases hq q h2 with s | s
    · have := h.cL f hf q s; have := hc q h1; omega
    · have := hrl q h1; omega
  have hlo : ∀ x, (x = X ∨ (lv f).ownBlock = some x) → w0.heap.size ≤ x := by
    rintro x (e | e)
    · rw [e]; exact h.loX
    · exact ((h.lst f hf).lt x e).1
  refine ⟨fun q => if r.ownBlock = some q then 2 + K + K * (N f) + f else if lv'.ownBlock = some q then 2 + f else col q, ⟨?_, ?_, ?_, ?_, ?_, ?_, ?_, h.loX, ?_, ?_, ?_⟩, ?_, kk⟩
  · intro g hg
    by_cases e : g = f
    · subst e; rw [upd_same]; exact World.cell?_setCell_same _ _ _ c2
    · rw [upd_other _ _ _ e, World.cell?_setCell_other _ _ _ _ (by simp only [ne_eq, Addr.mk.injEq, true_and, and_true]; exact fun e' => e e'.symm)]
      exact cells1 h.cell h.ltX k (fun s => hXn X s rfl) g hg
  · intro j
    rw [World.frozen?_setCell]
    exact (k.frozen (p := ⟨X, j, none⟩) h.ltX (fun s => hXn X s rfl)).trans (h.fz j)
  · intro g hg
    by_cases e : g = f
    · subst e
      rw [upd_same, upd_same, upd_same, List.range_succ, List.map_append, List.map_cons, List.map_nil, upd_same]
      have e2 : (List.range (N g)).map (upd (R g) (N g) r) = (List.range (N g)).map (R g) := List.map_congr_left (fun x hx => upd_other _ _ _ (by have := List.mem_range.1 hx; omega))
      rw [e2]
      exact ks.owns ho (fun q hq' e => hlX q hq' e)
    · rw [upd_other _ _ _ e, upd_other _ _ _ e, upd_other _ _ _ e]
      refine kk.owns (h.lst g hg) (fun q hq' s => ?_)
      have h1 := h.cL g hg q hq'
      rcases s with s | s
      · rw [s] at h1; omega
      · have := h.cL f hf q s; omega
  · intro g hg i hi
    by_cases e : g = f
    · subst e
      rw [upd_same, upd_same]
      rw [upd_same] at hi
      by_cases e2 : i = N g
      · subst e2
        rw [upd_same, upd_same]
        refine kk.owns hr (fun q hq' s => ?_)
        have h1 := hc q hq'
        rcases s with s | s
        · rw [s] at h1; omega
        · have := h.cL g hg q s; omega
      · rw [upd_other _ _ _ e2, upd_other _ _ _ e2]
        refine kk.owns (h.row g hg i (by omega)) (fun q hq' s => ?_)
        have h1 := h.cR g hg i (by omega) q hq'
        rcases s with s | s
        · rw [s] at h1; omega
        · have := h.cL g hg q s; omega
    · rw [upd_other _ _ _ e, upd_other _ _ _ e]
      rw [upd_other _ _ _ e] at hi
      refine kk.owns (h.row g hg i hi) (fun q hq' s => ?_)
      have h1 := h.cR g hg i hi q hq'
      rcases s with s | s
      · rw [s] at h1; omega
      · have := h.cL f hf q s; omega
  · have e1 : r.ownBlock ≠ some X := fun e => by have := hc X e; omega
    have e2 : lv'.ownBlock ≠ some X := fun e => hlX X e rfl
    simp [e1, e2, hX1]
  · intro g hg q hq'
    by_cases e : g = f
    · subst e
      rw [upd_same] at hq'
      have e1 : r.ownBlock ≠ some q := fun e => hlr q e hq'
      simp [e1, hq']
    · rw [upd_other _ _ _ e] at hq'
      have h1 := h.cL g hg q hq'
      have e1 : r.ownBlock ≠ some q := fun e => by have := hc q e; omega
      have e2 : lv'.ownBlock ≠ some q := fun e2 => by
        rcases hq q e2 with s | s
        · have := h.cL f hf q s; omega
        · have := ((h.lst g hg).lt q hq').2; omega
      simp [e1, e2, h1]
  · intro g hg i hi q hq'
    have old : g < K → i < N g → (R g i).ownBlock = some q → (if r.ownBlock = some q then 2 + K + K * (N f) + f else if lv'.ownBlock = some q then 2 + f else col q) = 2 + K + K * i + g := by
      intro hg hi hq'
      have h1 := h.cR g hg i hi q hq'
      have e1 : r.ownBlock ≠ some q := fun e => by have := hc q e; omega
      have e2 : lv'.ownBlock ≠ some q := fun e2 => by
        rcases hq q e2 with s | s
        · have := h.cL f hf q s; omega
        · have := ((h.row g hg i hi).lt q hq').2; omega
      rw [if_neg e1, if_neg e2, h1]
    by_cases e : g = f
    · subst e
      rw [upd_same] at hq' hi
      by_cases e2 : i = N g
      · subst e2
        rw [upd_same] at hq'
        simp [hq']
      · rw [upd_other _ _ _ e2] at hq'
        exact old hg (by omega) hq'
    · rw [upd_other _ _ _ e] at hq' hi
      exact old hg hi hq'
  · simpa using Nat.lt_of_lt_of_le h.ltX k.size
  · intro q hq'
    have hs : w2.heap.size ≤ q := by simpa using hq'
    have e1 : r.ownBlock ≠ some q := fun e => by have := hrl q e; have := k.size; omega
    have e2 : lv'.ownBlock ≠ some q := fun e => by have := (ho.lt q e).2; omega
    rw [if_neg e1, if_neg e2]
    exact h.top q (Nat.le_trans k.size hs)
  · exact h.ch.trans (kk.below hlo h.ch.size)
  · intro q hq' e1
    have e2 : lv'.ownBlock = some q → col q = 2 + f := fun e2 => by
      rcases hq q e2 with s | s
      · exact h.cL f hf q s
      · omega
    show (if r.ownBlock = some q then 2 + K + K * (N f) + f else if lv'.ownBlock = some q then 2 + f else col q) = col q
    rw [if_neg e1]
    split
    · rename_i e; rw [e2 e]
    · rfl
/-- the same, told by what is another -/
theorem LS.push' (h : LS K ty et w0 w X col N lv R C) (f : Nat) (hf : f < K) (r : Value) (c : List Value) (hr : w.ownsRow w0.heap.size (et f) 1 r c.length c) (hc : ∀ q, r.ownBlock = some q → col q = 0) (lv' : Value)
    (ho : w2.ownsRow w0.heap.size (ty f) 1 lv' (N f + 1) ((List.range (N f)).map (R f) ++ [r])) (hq : ∀ q, lv'.ownBlock = some q → (lv f).ownBlock = some q ∨ w.heap.size ≤ q) (k : Ch (fun x => (lv f).ownBlock = some x) w w2) :
    ∃ (col' N' : Nat → Nat) (lv2 : Nat → Value) (R' : Nat → Nat → Value) (C' : Nat → Nat → List Value), LS K ty et w0 (w2.setCell ⟨X, f, none⟩ lv') X col' N' lv2 R' C' ∧ N' f = N f + 1 ∧ (∀ g, g ≠ f → N' g = N g) ∧ (∀ g i, i < N g → R' g i = R g i ∧ C' g i = C g i) ∧ C' f (N f) = c ∧
      (∀ q, q < w.heap.size → r.ownBlock ≠ some q → col' q = col q) ∧ Ch (fun x => col x = 1 ∨ col x = 2 + f) w (w2.setCell ⟨X, f, none⟩ lv') := by
  obtain ⟨col', h1, h2, h3⟩ := h.push f hf r c hr hc lv' ho hq k
  refine ⟨col', _, _, _, _, h1, upd_same _ _ _, fun g hg => upd_other _ _ _ hg, fun g i hi => ?_, ?_, h2, h3.mono (fun x _ s => ?_)⟩
  · by_cases e : g = f
    · subst e
      rw [upd_same, upd_same, upd_other _ _ _ (by omega), upd_other _ _ _ (by omega)]
      exact ⟨rfl, rfl⟩
    · rw [upd_other _ _ _ e, upd_other _ _ _ e]
      exact ⟨rfl, rfl⟩
  · rw [upd_same, upd_same]
  · rcases s with s | s
    · rw [s]; exact .inl h.cX
    · exact .inr (h.cL f hf x s)
end Go.Proofs.Ytcgfdhmegagjdaa.Ls
