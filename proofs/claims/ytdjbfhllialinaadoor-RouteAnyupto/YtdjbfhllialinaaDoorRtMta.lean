/-
  Layer 14: Matches: the routes of the address's prefixes, from the longest on.
-/
import Derived.Test.YtdjbfhllialinaaDoorRtI2
namespace Go.Proofs.YtdjbfhllialinaaDoor
open Go.RowKit Go.Maps Go.Shelf
attribute [local go_sem] Oper.semAt_some

theorem RL.form {w : World} {base : Nat} {v : Value} {L : List RV} (h : RL w base v L) : ∃ va vc, v = .slice va L.length vc := by
  rcases h.2 with ⟨rfl, h0⟩ | ⟨g, cap, cur, rfl, _⟩
  · exact ⟨none, 0, by rw [h0]⟩
  · exact ⟨_, _, rfl⟩
theorem RL.cells {w : World} {base : Nat} {v : Value} {L : List RV} (h : RL w base v L) : ∀ g, v.ownBlock = some g → base ≤ g ∧ g < w.heap.size ∧ ∃ o : Obj, w.heap[g]? = some o ∧ o.isCells = true := by
  intro g hg
  rcases h.2 with ⟨rfl, h0⟩ | ⟨g', cap, cur, rfl, hb, hh, _⟩
  · simp [Value.ownBlock] at hg
  · simp [Value.ownBlock] at hg
    subst hg
    exact ⟨hb, (Array.getElem?_eq_some_iff.1 hh).1, _, hh, rfl⟩
theorem RL.mono {w : World} {b b' : Nat} {v : Value} {L : List RV} (h : RL w b v L) (hb : b' ≤ b) : RL w b' v L := by
  refine ⟨h.1, ?_⟩
  rcases h.2 with h2 | ⟨g, cap, cur, rfl, hg, r⟩
  · exact .inl h2
  · exact .inr ⟨g, cap, cur, rfl, Nat.le_trans hb hg, r⟩
structure MP (w : World) (t M : Nat) (D : DataW Value) (R : List RV) (B O5 Lo : Nat) (L : List RV) (v : Value) (W : World) : Prop where
  tab : TabAt W t M D R
  ct : W.cell? ⟨B, 0, none⟩ = some (.pointer (some ⟨t, 0, none⟩))
  cl : W.cell? ⟨O5, 0, none⟩ = some v
  fb : W.frozen? ⟨O5, 0, none⟩ = false
  li : RL W Lo v L
  bel : Below w.heap.size w W
theorem MP.ch {w : World} {t M : Nat} {D : DataW Value} {R : List RV} {B O5 Lo : Nat} {L : List RV} {v : Value} {W W' : World} {S : Nat → Prop} (h : MP w t M D R B O5 Lo L v W) (k : Ch S W W') (hS : ∀ q, S q → Lo ≤ q) (hL : t < Lo ∧ M < Lo ∧ B < Lo ∧ O5 < Lo ∧ w.heap.size ≤ Lo) (hC : ∀ q, S q → ∀ o : Obj, W.heap[q]? = some o → o.isCells = false) : MP w t M D R B O5 Lo L v W' := by
  have no : ∀ q, q < Lo → ¬ S q := fun q hq hs => by have := hS q hs; omega
  refine ⟨h.tab.ch k (no _ hL.1) (no _ hL.2.1), k.cell h.ct (no B (by omega)), k.cell h.cl (no O5 (by omega)), (k.frozen (p := ⟨O5, 0, none⟩) (World.block_lt_of_cell? W _ h.cl) (no O5 (by omega))).trans h.fb, h.li.ch k (fun g hg hs => ?_), h.bel.trans (k.below (fun q hq => by have := hS q hq; omega) h.bel.size)⟩
  obtain ⟨_, _, o, h1, h2⟩ := h.li.cells g hg
  rw [hC g hs o h1] at h2
  cases h2
theorem MP.below {w : World} {t M : Nat} {D : DataW Value} {R : List RV} {B O5 Lo : Nat} {L : List RV} {v : Value} {W W' : World} (h : MP w t M D R B O5 Lo L v W) (b : Below W.heap.size W W') (hL : t < Lo ∧ M < Lo ∧ B < Lo ∧ O5 < Lo ∧ w.heap.size ≤ Lo) : MP w t M D R B O5 Lo L v W' := h.ch (Ch.ofBelow (S := fun _ => False) b) (fun _ h => h.elim) hL (fun _ h => h.elim)
theorem cnP_le (V : Int) (x : Nat → Nat) : cnP V x ≤ 129 := by
  unfold cnP
  have := bitV_le V
  split <;> omega
def mIP (R : List RV) (V : Int) (x : Nat → Nat) : List RV := ((List.range (cnP V x)).map (elP V x)).filterMap (fnd R)
theorem mIP_eq {R : List RV} {V : Int} {x : Nat → Nat} {hv : (Lit.int .i64 V).wf = true} {hx : ∀ i, i < 16 → x i < 256} : (uptoW V x hv hx (cnP V x)).filterMap (fun p => fnd R p.1) = mIP R V x := by
  unfold mIP uptoW
  rw [List.filterMap_map, List.filterMap_map]
  rfl
theorem fm_len (R : List RV) (pre : List PW) : (pre.filterMap (fun p => fnd R p.1)).length ≤ pre.length := List.length_filterMap_le _ _
theorem fm_none {R : List RV} {pre : List PW} {p : PW} (h : fnd R p.1 = none) : (pre ++ [p]).filterMap (fun p => fnd R p.1) = pre.filterMap (fun p => fnd R p.1) := by simp [List.filterMap_append, h]
theorem fm_some {R : List RV} {pre : List PW} {p : PW} {r : RV} (h : fnd R p.1 = some r) : (pre ++ [p]).filterMap (fun p => fnd R p.1) = pre.filterMap (fun p => fnd R p.1) ++ [r] := by simp [List.filterMap_append, h]
end Go.Proofs.YtdjbfhllialinaaDoor
