/-
  Layer 15 (NeighOwn): the statement's Book in memory: three rows of lists, each list's Ports (or numbers) all its mark.
-/
import Derived.Test.YtnpipngiehohgaaFyG
import Derived.Test.YtnpipngiehohgaaNgLs
namespace Go.Proofs.Ytnpipngiehohgaa
open Go.RowKit Go.Maps
namespace No

theorem apartT {w : World} {B B' sz sz' : Nat} {e e' : TypeId} {v v' : Value} {n n' : Nat} {xs xs' : List Value} (h : w.ownsRow B e sz v n xs) (h' : w.ownsRow B' e' sz' v' n' xs') (hne : e ≠ e') : ∀ g, v.ownBlock = some g → ¬ v'.ownBlock = some g := by
  intro g hg hg'
  rcases h.2 with ⟨rfl, _⟩ | ⟨q, cap, cur, rfl, _, hh, _⟩
  · simp [Value.ownBlock] at hg
  · rcases h'.2 with ⟨rfl, _⟩ | ⟨q', cap', cur', rfl, _, hh', _⟩
    · simp [Value.ownBlock] at hg'
    · simp only [Value.ownBlock, Option.some.injEq] at hg hg'
      subst hg
      subst hg'
      rw [hh] at hh'
      simp only [Option.some.injEq, Obj.cells.injEq] at hh'
      exact hne hh'.2.1
theorem cell_ne (w : World) (gb j i : Nat) (v : Value) (h : i ≠ j) : (w.setCell ⟨gb, j, none⟩ v).cell? ⟨gb, i, none⟩ = w.cell? ⟨gb, i, none⟩ := World.cell?_setCell_other _ _ _ _ (by simp only [ne_eq, Addr.mk.injEq, true_and, and_true]; omega)
/-- the mark of the list number i -/
def pm (i : Nat) : Int := -100 - ((i / 3 * 3 : Nat) : Int)
/-- the first cell of each of n elements is m -/
def PtOk (K n : Nat) (m : Int) (xs : List Value) : Prop := ∀ i, i < n → xs[i * K]? = some (.int .i64 m)
theorem PtOk.fill {K n k : Nat} {m : Int} {xs : List Value} (hK : 0 < K) (hl : xs.length = n * K) (hk : k < n) (h : PtOk K k m xs) : PtOk K (k + 1) m (xs.set (k * K) (.int .i64 m)) := fun i hi => by
  by_cases e : i = k
  · subst e
    rw [List.getElem?_set_self (by rw [hl]; exact Nat.mul_lt_mul_of_pos_right hk hK)]
  · rw [List.getElem?_set_ne (fun h2 => e (Nat.eq_of_mul_eq_mul_right hK h2.symm))]
    exact h i (by omega)
theorem rep_at (mk : List Value) : ∀ (j q t : Nat), q < j → t < mk.length → (Fg.rep j mk)[q * mk.length + t]? = mk[t]?
  | 0, q, _, h, _ => by omega
  | j + 1, 0, t, _, ht => by
    rw [show j + 1 = 1 + j by omega, Fg.rep_add, Nat.zero_mul, Nat.zero_add, List.getElem?_append_left (by rw [Fg.rep_len]; omega)]
    simp [Fg.rep]
  | j + 1, q + 1, t, h, ht => by
    have e1 : (Fg.rep 1 mk).length = mk.length := by rw [Fg.rep_len]; omega
    rw [show j + 1 = 1 + j by omega, Fg.rep_add, List.getElem?_append_right (by rw [e1, Nat.add_mul]; omega), e1, show (q + 1) * mk.length + t - mk.length = q * mk.length + t by rw [Nat.add_mul]; omega]
    exact rep_at mk j q t (by omega) ht
theorem PtOk.long {n j : Nat} {m : Int} {xs mk : List Value} (hl : xs.length = n * mk.length) (h0 : mk[0]? = some (.int .i64 m)) (h : PtOk mk.length n m xs) : PtOk mk.length (n + j) m (xs ++ Fg.rep j mk) := fun i hi => by
  have hK : 0 < mk.length := (List.getElem?_eq_some_iff.1 h0).1
  by_cases e : i < n
  · rw [List.getElem?_append_left (by rw [hl]; exact Nat.mul_lt_mul_of_pos_right e hK)]
    exact h i e
  · obtain ⟨q, rfl⟩ : ∃ q, i = n + q := ⟨i - n, by omega⟩
    rw [List.getElem?_append_right (by rw [hl]; exact Nat.mul_le_mul_right _ (by omega)), hl, Nat.add_mul, Nat.add_sub_cancel_left]
    have h1 := rep_at mk j q 0 (by omega) hK
    rw [Nat.add_zero] at h1
    rw [h1, h0]
/-- a list of the book -/
def RwOk (w : World) (e : TypeId) (K : Nat) (m : Int) (r : Value × Nat) : Prop := ∃ xs, w.ownsRow 0 e K r.1 r.2 xs ∧ PtOk K r.2 m xs
theorem RwOk.ch {S : Nat → Prop} {w w' : World} {e : TypeId} {K : Nat} {m : Int} {r : Value × Nat} (h : RwOk w e K m r) (k : Ch S w w') (hS : ∀ g, r.1.ownBlock = some g → ¬ S g) : RwOk w' e K m r := by
  obtain ⟨xs, h1, h2⟩ := h
  exact ⟨xs, k.owns h1 hS, h2⟩
theorem RwOk.lt {w : World} {e : TypeId} {K : Nat} {m : Int} {r : Value × Nat} (h : RwOk w e K m r) {q : Nat} (hq : r.1.ownBlock = some q) : q < w.heap.size := by
  obtain ⟨xs, h1, _⟩ := h
  exact (h1.lt q hq).2
/-- rows of a list and its lengthenings -/
theorem RwOk.fy {w : World} {e : TypeId} {m : Int} {xs mk : List Value} {lv : Value} {n T : Nat} {F : List (Value × Nat)} (h : Fg.Fy w 0 e xs mk lv n T F) (h0 : mk[0]? = some (.int .i64 m)) (hx : PtOk mk.length n m xs) : RwOk w e mk.length m (lv, n) ∧ ∀ r ∈ F, RwOk w e mk.length m (r.1, n + r.2) :=
  ⟨⟨xs, h.own, hx⟩, fun r hr => ⟨_, (h.mem r hr).1, hx.long h.own.1 h0⟩⟩
structure BV where
  hI : Value
  hN : Value
  hA : Value
  I : List (Value × Nat)
  N : List (Value × Nat)
  A : List (Value × Nat)
def BB (K : Nat) (b : BV) (x : Nat) : Prop := x = K ∨ b.hI.ownBlock = some x ∨ b.hN.ownBlock = some x ∨ b.hA.ownBlock = some x ∨ (∃ r, r ∈ b.I ∧ r.1.ownBlock = some x) ∨ (∃ r, r ∈ b.N ∧ r.1.ownBlock = some x) ∨ (∃ r, r ∈ b.A ∧ r.1.ownBlock = some x)
structure BkM (w : World) (K : Nat) (b : BV) : Prop where
  c0 : w.cell? ⟨K, 0, none⟩ = some b.hI
  c1 : w.cell? ⟨K, 1, none⟩ = some b.hN
  c2 : w.cell? ⟨K, 2, none⟩ = some b.hA
  fz : ∀ j, w.frozen? ⟨K, j, none⟩ = false
  oI : w.ownsRow 0 39 1 b.hI b.I.length (b.I.map (fun r => r.1))
  oN : w.ownsRow 0 45 1 b.hN b.N.length (b.N.map (fun r => r.1))
  oA : w.ownsRow 0 42 1 b.hA b.A.length (b.A.map (fun r => r.1))
  eI : ∀ i r, b.I[i]? = some r → RwOk w 3 1 (pm i) r
  eN : ∀ i r, b.N[i]? = some r → RwOk w 48 28 (pm i) r
  eA : ∀ i r, b.A[i]? = some r → RwOk w 114 25 (pm i) r
  nK : ∀ q, (b.hI.ownBlock = some q ∨ b.hN.ownBlock = some q ∨ b.hA.ownBlock = some q ∨ (∃ r, r ∈ b.I ∧ r.1.ownBlock = some q) ∨ (∃ r, r ∈ b.N ∧ r.1.ownBlock = some q) ∨ (∃ r, r ∈ b.A ∧ r.1.ownBlock = some q)) → q ≠ K
section
variable {w : World} {K : Nat} {b : BV} (h : BkM w K b)
include h
theorem BkM.lt : ∀ x, BB K b x → x < w.heap.size := by
  rintro x (rfl | hx | hx | hx | ⟨r, hr, hx⟩ | ⟨r, hr, hx⟩ | ⟨r, hr, hx⟩)
  · exact World.block_lt_of_cell? w ⟨x, 0, none⟩ h.c0
  · exact (h.oI.lt x hx).2
  · exact (h.oN.lt x hx).2
  · exact (h.oA.lt x hx).2
  · obtain ⟨i, hi⟩ := List.mem_iff_getElem?.1 hr
    exact (h.eI i r hi).lt hx
  · obtain ⟨i, hi⟩ := List.mem_iff_getElem?.1 hr
    exact (h.eN i r hi).lt hx
  · obtain ⟨i, hi⟩ := List.mem_iff_getElem?.1 hr
    exact (h.eA i r hi).lt hx
theorem BkM.ch {T : Nat → Prop} {w' : World} (k : Ch T w w') (hT : ∀ x, BB K b x → ¬ T x) : BkM w' K b where
  c0 := k.cell h.c0 (hT K (.inl rfl))
  c1 := k.cell h.c1 (hT K (.inl rfl))
  c2 := k.cell h.c2 (hT K (.inl rfl))
  fz := fun j => (k.frozen (p := ⟨K, j, none⟩) (h.lt K (.inl rfl)) (hT K (.inl rfl))).trans (h.fz j)
  oI := k.owns h.oI (fun g hg => hT g (.inr (.inl hg)))
  oN := k.owns h.oN (fun g hg => hT g (.inr (.inr (.inl hg))))
  oA := k.owns h.oA (fun g hg => hT g (.inr (.inr (.inr (.inl hg)))))
  eI := fun i r hi => (h.eI i r hi).ch k (fun g hg => hT g (.inr (.inr (.inr (.inr (.inl ⟨r, List.mem_of_getElem? hi, hg⟩))))))
  eN := fun i r hi => (h.eN i r hi).ch k (fun g hg => hT g (.inr (.inr (.inr (.inr (.inr (.inl ⟨r, List.mem_of_getElem? hi, hg⟩)))))))
  eA := fun i r hi => (h.eA i r hi).ch k (fun g hg => hT g (.inr (.inr (.inr (.inr (.inr (.inr ⟨r, List.mem_of_getElem? hi, hg⟩)))))))
  nK := h.nK
theorem BkM.below {w' : World} (k : Below w.heap.size w w') : BkM w' K b := h.ch (Ch.ofBelow (S := fun _ => False) k) (fun _ _ => id)
theorem BkM.setI {w1 : World} (c : Ch (fun q => b.hI.ownBlock = some q) w w1) (u : Value) (X : List (Value × Nat)) (ho : w1.ownsRow 0 39 1 u X.length (X.map (fun r => r.1)))
    (hn : ∀ q, u.ownBlock = some q → b.hI.ownBlock = some q ∨ w.heap.size ≤ q) (he : ∀ i r, X[i]? = some r → RwOk w1 3 1 (pm i) r) (hK : ∀ r, r ∈ X → r.1.ownBlock ≠ some K) : BkM (w1.setCell ⟨K, 0, none⟩ u) K { b with hI := u, I := X } := by
  have hlt := h.lt
  have kK : ¬ b.hI.ownBlock = some K := fun e => h.nK K (.inl e) rfl
  have k2 : Ch (fun q => q = K) w1 (w1.setCell ⟨K, 0, none⟩ u) := (Ch.refl _ w1).set _ _ rfl
  have nK' : u.ownBlock ≠ some K := by
    intro e
    rcases hn K e with k | k
    · exact kK k
    · have := hlt K (.inl rfl); omega
  have cK : ∀ {j : Nat} {z : Value}, w.cell? ⟨K, j, none⟩ = some z → j ≠ 0 → (w1.setCell ⟨K, 0, none⟩ u).cell? ⟨K, j, none⟩ = some z := by
    intro j z hz hj
    rw [cell_ne _ _ _ _ _ hj]
    exact c.cell hz kK
  refine ⟨World.cell?_setCell_same _ _ _ (c.cell h.c0 kK), cK h.c1 (by omega), cK h.c2 (by omega), ?fz, k2.owns ho (fun g hg e => nK' (by rw [← e]; exact hg)), k2.owns (c.owns h.oN (fun g hg e => apartT h.oI h.oN (by decide) g e hg)) (fun g hg e => h.nK g (.inr (.inl hg)) e), k2.owns (c.owns h.oA (fun g hg e => apartT h.oI h.oA (by decide) g e hg)) (fun g hg e => h.nK g (.inr (.inr (.inl hg))) e), fun i r hi => (he i r hi).ch k2 (fun g hg e => hK r (List.mem_of_getElem? hi) (by rw [← e]; exact hg)), fun i r hi => ((h.eN i r hi).ch c (fun g hg e => by obtain ⟨xs, h1, _⟩ := h.eN i r hi; exact apartT h.oI h1 (by decide) g e hg)).ch k2 (fun g hg e => h.nK g (.inr (.inr (.inr (.inr (.inl ⟨r, List.mem_of_getElem? hi, hg⟩))))) e), fun i r hi => ((h.eA i r hi).ch c (fun g hg e => by obtain ⟨xs, h1, _⟩ := h.eA i r hi; exact apartT h.oI h1 (by decide) g e hg)).ch k2 (fun g hg e => h.nK g (.inr (.inr (.inr (.inr (.inr ⟨r, List.mem_of_getElem? hi, hg⟩))))) e), ?nk⟩
  case fz =>
    intro j
    rw [World.frozen?_setCell]
    exact (c.frozen (p := ⟨K, j, none⟩) (hlt K (.inl rfl)) kK).trans (h.fz j)
  case nk =>
    intro q hq e
    subst e
    rcases hq with hq | hq | hq | ⟨r, hr, hq⟩ | ⟨r, hr, hq⟩ | ⟨r, hr, hq⟩
    · exact nK' hq
    · exact h.nK _ (.inr (.inl hq)) rfl
    · exact h.nK _ (.inr (.inr (.inl hq))) rfl
    · exact hK r hr hq
    · exact h.nK _ (.inr (.inr (.inr (.inr (.inl ⟨r, hr, hq⟩))))) rfl
    · exact h.nK _ (.inr (.inr (.inr (.inr (.inr ⟨r, hr, hq⟩))))) rfl
theorem BkM.setN {w1 : World} (c : Ch (fun q => b.hN.ownBlock = some q) w w1) (u : Value) (X : List (Value × Nat)) (ho : w1.ownsRow 0 45 1 u X.length (X.map (fun r => r.1)))
    (hn : ∀ q, u.ownBlock = some q → b.hN.ownBlock = some q ∨ w.heap.size ≤ q) (he : ∀ i r, X[i]? = some r → RwOk w1 48 28 (pm i) r) (hK : ∀ r, r ∈ X → r.1.ownBlock ≠ some K) : BkM (w1.setCell ⟨K, 1, none⟩ u) K { b with hN := u, N := X } := by
  have hlt := h.lt
  have kK : ¬ b.hN.ownBlock = some K := fun e => h.nK K (.inr (.inl e)) rfl
  have k2 : Ch (fun q => q = K) w1 (w1.setCell ⟨K, 1, none⟩ u) := (Ch.refl _ w1).set _ _ rfl
  have nK' : u.ownBlock ≠ some K := by
    intro e
    rcases hn K e with k | k
    · exact kK k
    · have := hlt K (.inl rfl); omega
  have cK : ∀ {j : Nat} {z : Value}, w.cell? ⟨K, j, none⟩ = some z → j ≠ 1 → (w1.setCell ⟨K, 1, none⟩ u).cell? ⟨K, j, none⟩ = some z := by
    intro j z hz hj
    rw [cell_ne _ _ _ _ _ hj]
    exact c.cell hz kK
  refine ⟨cK h.c0 (by omega), World.cell?_setCell_same _ _ _ (c.cell h.c1 kK), cK h.c2 (by omega), ?fz, k2.owns (c.owns h.oI (fun g hg e => apartT h.oN h.oI (by decide) g e hg)) (fun g hg e => h.nK g (.inl hg) e), k2.owns ho (fun g hg e => nK' (by rw [← e]; exact hg)), k2.owns (c.owns h.oA (fun g hg e => apartT h.oN h.oA (by decide) g e hg)) (fun g hg e => h.nK g (.inr (.inr (.inl hg))) e), fun i r hi => ((h.eI i r hi).ch c (fun g hg e => by obtain ⟨xs, h1, _⟩ := h.eI i r hi; exact apartT h.oN h1 (by decide) g e hg)).ch k2 (fun g hg e => h.nK g (.inr (.inr (.inr (.inl ⟨r, List.mem_of_getElem? hi, hg⟩)))) e), fun i r hi => (he i r hi).ch k2 (fun g hg e => hK r (List.mem_of_getElem? hi) (by rw [← e]; exact hg)), fun i r hi => ((h.eA i r hi).ch c (fun g hg e => by obtain ⟨xs, h1, _⟩ := h.eA i r hi; exact apartT h.oN h1 (by decide) g e hg)).ch k2 (fun g hg e => h.nK g (.inr (.inr (.inr (.inr (.inr ⟨r, List.mem_of_getElem? hi, hg⟩))))) e), ?nk⟩
  case fz =>
    intro j
    rw [World.frozen?_setCell]
    exact (c.frozen (p := ⟨K, j, none⟩) (hlt K (.inl rfl)) kK).trans (h.fz j)
  case nk =>
    intro q hq e
    subst e
    rcases hq with hq | hq | hq | ⟨r, hr, hq⟩ | ⟨r, hr, hq⟩ | ⟨r, hr, hq⟩
    · exact h.nK _ (.inl hq) rfl
    · exact nK' hq
    · exact h.nK _ (.inr (.inr (.inl hq))) rfl
    · exact h.nK _ (.inr (.inr (.inr (.inl ⟨r, hr, hq⟩)))) rfl
    · exact hK r hr hq
    · exact h.nK _ (.inr (.inr (.inr (.inr (.inr ⟨r, hr, hq⟩))))) rfl
theorem BkM.setA {w1 : World} (c : Ch (fun q => b.hA.ownBlock = some q) w w1) (u : Value) (X : List (Value × Nat)) (ho : w1.ownsRow 0 42 1 u X.length (X.map (fun r => r.1)))
    (hn : ∀ q, u.ownBlock = some q → b.hA.ownBlock = some q ∨ w.heap.size ≤ q) (he : ∀ i r, X[i]? = some r → RwOk w1 114 25 (pm i) r) (hK : ∀ r, r ∈ X → r.1.ownBlock ≠ some K) : BkM (w1.setCell ⟨K, 2, none⟩ u) K { b with hA := u, A := X } := by
  have hlt := h.lt
  have kK : ¬ b.hA.ownBlock = some K := fun e => h.nK K (.inr (.inr (.inl e))) rfl
  have k2 : Ch (fun q => q = K) w1 (w1.setCell ⟨K, 2, none⟩ u) := (Ch.refl _ w1).set _ _ rfl
  have nK' : u.ownBlock ≠ some K := by
    intro e
    rcases hn K e with k | k
    · exact kK k
    · have := hlt K (.inl rfl); omega
  have cK : ∀ {j : Nat} {z : Value}, w.cell? ⟨K, j, none⟩ = some z → j ≠ 2 → (w1.setCell ⟨K, 2, none⟩ u).cell? ⟨K, j, none⟩ = some z := by
    intro j z hz hj
    rw [cell_ne _ _ _ _ _ hj]
    exact c.cell hz kK
  refine ⟨cK h.c0 (by omega), cK h.c1 (by omega), World.cell?_setCell_same _ _ _ (c.cell h.c2 kK), ?fz, k2.owns (c.owns h.oI (fun g hg e => apartT h.oA h.oI (by decide) g e hg)) (fun g hg e => h.nK g (.inl hg) e), k2.owns (c.owns h.oN (fun g hg e => apartT h.oA h.oN (by decide) g e hg)) (fun g hg e => h.nK g (.inr (.inl hg)) e), k2.owns ho (fun g hg e => nK' (by rw [← e]; exact hg)), fun i r hi => ((h.eI i r hi).ch c (fun g hg e => by obtain ⟨xs, h1, _⟩ := h.eI i r hi; exact apartT h.oA h1 (by decide) g e hg)).ch k2 (fun g hg e => h.nK g (.inr (.inr (.inr (.inl ⟨r, List.mem_of_getElem? hi, hg⟩)))) e), fun i r hi => ((h.eN i r hi).ch c (fun g hg e => by obtain ⟨xs, h1, _⟩ := h.eN i r hi; exact apartT h.oA h1 (by decide) g e hg)).ch k2 (fun g hg e => h.nK g (.inr (.inr (.inr (.inr (.inl ⟨r, List.mem_of_getElem? hi, hg⟩))))) e), fun i r hi => (he i r hi).ch k2 (fun g hg e => hK r (List.mem_of_getElem? hi) (by rw [← e]; exact hg)), ?nk⟩
  case fz =>
    intro j
    rw [World.frozen?_setCell]
    exact (c.frozen (p := ⟨K, j, none⟩) (hlt K (.inl rfl)) kK).trans (h.fz j)
  case nk =>
    intro q hq e
    subst e
    rcases hq with hq | hq | hq | ⟨r, hr, hq⟩ | ⟨r, hr, hq⟩ | ⟨r, hr, hq⟩
    · exact h.nK _ (.inl hq) rfl
    · exact h.nK _ (.inr (.inl hq)) rfl
    · exact nK' hq
    · exact h.nK _ (.inr (.inr (.inr (.inl ⟨r, hr, hq⟩)))) rfl
    · exact h.nK _ (.inr (.inr (.inr (.inr (.inl ⟨r, hr, hq⟩))))) rfl
    · exact hK r hr hq
end
end No
end Go.Proofs.Ytnpipngiehohgaa
