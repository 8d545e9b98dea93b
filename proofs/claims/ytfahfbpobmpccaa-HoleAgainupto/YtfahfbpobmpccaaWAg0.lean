/-
  HoleAgain: what its rounds use.
-/
import Derived.Test.YtfahfbpobmpccaaKWc
import Derived.Test.YtfahfbpobmpccaaWLay
namespace Go.Proofs.Ytfahfbpobmpccaa
open Go.RowKit Go.Maps
namespace H11
section
variable {W : World} {k : Nat} {p : Nat → Ent} {sz ia ib PS BK : Nat} {b : BV} {w : World} (h : HPl W k p sz ia ib PS BK b w)
include h
/-- a call that changes one pair -/
theorem HPl.putX {w' : World} {s' : HS} (i : Nat) (hi : i < sz) (m : EMd w (p i) s' w') (ht : s'.tk.length ≤ k + 1) : ∃ p', HPl W (k + 1) p' sz ia ib PS BK b w' ∧ ∀ j, j < sz → ∀ x, EB (p' j) x → EB (p j) x ∨ w.heap.size ≤ x := by
  obtain ⟨e', m1, m2, m3, m4, m5, m6⟩ := m
  have hsz := h.bel.size
  have nw : ∀ j, j < sz → j ≠ i → ∀ x, EB (p j) x → ¬ EB e' x := by
    intro j hj hji x hx q
    rcases m5 x q with z | z
    · exact h.dj j i hj hi hji x hx z
    · have := (h.ok j hj).lt x hx; omega
  have eq : psV (if ia = i then e' else p ia) (if ib = i then e' else p ib) = psV (p ia) (p ib) := by
    unfold psV
    by_cases c1 : ia = i <;> by_cases c2 : ib = i <;> simp [c1, c2, m2, m3]
  refine ⟨fun j => if j = i then e' else p j, ?_⟩
  have key : ∀ j, j < sz → ∀ x, EB (if j = i then e' else p j) x → (j = i ∧ EB e' x) ∨ (j ≠ i ∧ EB (p j) x) := by
    intro j _ x hx
    by_cases c : j = i
    · rw [if_pos c] at hx; exact .inl ⟨c, hx⟩
    · rw [if_neg c] at hx; exact .inr ⟨c, hx⟩
  refine ⟨⟨?_, ?_, ?_, ?_, h.ha, h.hb, ?_, h.psl, ?_, h.bk.ch m6 (fun x hx q => h.bd i hi x hx q), h.mb, h.mg, by have := h.le; omega, by have := h.lg; omega, h.bl, ?_, h.bp, h.bel.trans (m6.below (h.lo i hi) hsz)⟩, ?_⟩
  · intro j hj
    by_cases c : j = i
    · simp only [c, if_true]; exact m1
    · simp only [if_neg c]; exact (h.ok j hj).ch m6 (fun x hx q => h.dj j i hj hi c x hx q)
  · intro j hj
    by_cases c : j = i
    · simp only [c, if_true, m4]; exact ht
    · simp only [if_neg c]; exact Nat.le_succ_of_le (h.tk j hj)
  · intro j hj x hx
    rcases key j hj x hx with ⟨_, z⟩ | ⟨_, z⟩
    · rcases m5 x z with y | y
      · exact h.lo i hi x y
      · exact Nat.le_trans hsz y
    · exact h.lo j hj x z
  · intro j l hj hl hne x hx q
    rcases key j hj x hx with ⟨c1, z⟩ | ⟨c1, z⟩
    · rcases key l hl x q with ⟨c2, y⟩ | ⟨c2, y⟩
      · exact hne (c1.trans c2.symm)
      · exact nw l hl c2 x y z
    · rcases key l hl x q with ⟨c2, y⟩ | ⟨c2, y⟩
      · exact nw j hj c1 x z y
      · exact h.dj j l hj hl hne x z y
  · have hps := h.ps.ch m6 (fun q => h.psn i hi q)
    show PsAt w' PS (psV (if ia = i then e' else p ia) (if ib = i then e' else p ib))
    rw [eq]
    exact hps
  · intro j hj q
    rcases key j hj PS q with ⟨_, z⟩ | ⟨_, z⟩
    · rcases m5 PS z with y | y
      · exact h.psn i hi y
      · have := h.ps.lt; omega
    · exact h.psn j hj z
  · intro j hj x hx q
    rcases key j hj x q with ⟨_, z⟩ | ⟨_, z⟩
    · rcases m5 x z with y | y
      · exact h.bd i hi x hx y
      · have := h.bk.lt x hx; omega
    · exact h.bd j hj x hx z
  · intro j hj x hx
    rcases key j hj x hx with ⟨c, z⟩ | ⟨_, z⟩
    · rw [c]; exact m5 x z
    · exact .inl z
/-- a call that changes the book -/
theorem HPl.askX {w' : World} (m : BkE w BK b w') : ∃ b', HPl W (k + 1) p sz ia ib PS BK b' w' ∧ ∀ x, BB BK b' x → BB BK b x ∨ w.heap.size ≤ x := by
  obtain ⟨b', m1, m2, m3, m4, m5, m6, m7⟩ := m
  have hsz := h.bel.size
  refine ⟨b', ⟨fun i hi => (h.ok i hi).ch m7 (fun x hx q => h.bd i hi x q hx), fun i hi => Nat.le_succ_of_le (h.tk i hi), h.lo, h.dj, h.ha, h.hb, h.ps.ch m7 h.bp, h.psl, h.psn, m1, m2, m3, by have := h.le; omega, by have := h.lg; omega, ?_, ?_, ?_, h.bel.trans (m7.below h.bl hsz)⟩, m6⟩
  · intro x hx
    rcases m6 x hx with z | z
    · exact h.bl x z
    · exact Nat.le_trans hsz z
  · intro i hi x hx q
    rcases m6 x hx with z | z
    · exact h.bd i hi x z q
    · have := (h.ok i hi).lt x q; omega
  · intro q
    rcases m6 PS q with z | z
    · exact h.bp z
    · have := h.ps.lt; omega
end
theorem bf_of {w : World} {B g N : Nat} {l : List Nat} (h : w.ownsRow B 5 1 (.slice (some ⟨g, 0, none⟩) N N) N ((toI l).map (Value.int .u8))) : BfAt w g l := by
  rcases h.2 with ⟨e, _⟩ | ⟨g2, cap, cur, e, _, hh, _, _, hs, ht⟩
  · simp at e
  · simp only [Value.slice.injEq, Option.some.injEq, Addr.mk.injEq, and_true, true_and] at e
    obtain ⟨rfl, rfl⟩ := e
    unfold BfAt
    rw [hh, ← ht, List.take_of_length_le (by rw [Array.length_toList, hs]; exact Nat.le_refl _)]
theorem bf_zero : ∃ l : List Nat, l.length = 8262 ∧ (toI l).map (Value.int .u8) = (madeCells #[Value.int .u8 0] 8262).toList := by
  refine ⟨List.replicate 8262 0, List.length_replicate, ?_⟩
  unfold toI
  rw [List.map_replicate, List.map_replicate, toList_madeCells_one]
  congr 1
/-- the pool, the buffer and the second pair's box -/
structure HAg (W : World) (k : Nat) (p : Nat → Ent) (sz ia ib PS BK : Nat) (b : BV) (BF N P7 : Nat) (C7 : Array Value) (l : List Nat) (w : World) : Prop where
  pl : HPl W k p sz ia ib PS BK b w
  bf : BfAt w BF l
  ll : l.length = N
  fo : W.heap.size ≤ BF
  fe : ∀ i, i < sz → ¬ EB (p i) BF
  fb : ¬ BB BK b BF
  fp : BF ≠ PS
  pr : PrAt w P7 C7
  p7e : ∀ i, i < sz → ¬ EB (p i) P7
  p7b : ¬ BB BK b P7
  p7f : P7 ≠ BF
section
variable {W : World} {k : Nat} {p : Nat → Ent} {sz ia ib PS BK : Nat} {b : BV} {BF N P7 : Nat} {C7 : Array Value} {l : List Nat} {w : World} (h : HAg W k p sz ia ib PS BK b BF N P7 C7 l w)
include h
theorem HAg.below {w' : World} (c : Below w.heap.size w w') : HAg W k p sz ia ib PS BK b BF N P7 C7 l w' :=
  ⟨h.pl.below c, h.bf.ch (Ch.ofBelow (S := fun _ => False) c) id, h.ll, h.fo, h.fe, h.fb, h.fp, h.pr.below c, h.p7e, h.p7b, h.p7f⟩
theorem HAg.next : HAg W (k + 1) p sz ia ib PS BK b BF N P7 C7 l w := ⟨h.pl.next, h.bf, h.ll, h.fo, h.fe, h.fb, h.fp, h.pr, h.p7e, h.p7b, h.p7f⟩
theorem HAg.put {w' : World} {s' : HS} (i : Nat) (hi : i < sz) (m : EMd w (p i) s' w') (ht : s'.tk.length ≤ k + 1) : ∃ p', HAg W (k + 1) p' sz ia ib PS BK b BF N P7 C7 l w' := by
  obtain ⟨p', h1, h2⟩ := h.pl.putX i hi m ht
  have c : Ch (EB (p i)) w w' := by obtain ⟨_, _, _, _, _, _, z⟩ := m; exact z
  refine ⟨p', h1, h.bf.ch c (h.fe i hi), h.ll, h.fo, ?_, h.fb, h.fp, h.pr.ch c (h.p7e i hi), ?_, h.p7b, h.p7f⟩
  · intro j hj q
    rcases h2 j hj BF q with z | z
    · exact h.fe j hj z
    · have := h.bf.lt; omega
  · intro j hj q
    rcases h2 j hj P7 q with z | z
    · exact h.p7e j hj z
    · have := h.pr.lt; omega
theorem HAg.ask {w' : World} (m : BkE w BK b w') : ∃ b', HAg W (k + 1) p sz ia ib PS BK b' BF N P7 C7 l w' := by
  obtain ⟨b', h1, h2⟩ := h.pl.askX m
  have c : Ch (BB BK b) w w' := by obtain ⟨_, _, _, _, _, _, _, z⟩ := m; exact z
  refine ⟨b', h1, h.bf.ch c h.fb, h.ll, h.fo, h.fe, ?_, h.fp, h.pr.ch c h.p7b, h.p7e, ?_, h.p7f⟩
  · intro q
    rcases h2 BF q with z | z
    · exact h.fb z
    · have := h.bf.lt; omega
  · intro q
    rcases h2 P7 q with z | z
    · exact h.p7b z
    · have := h.pr.lt; omega
/-- the buffer is written over -/
theorem HAg.lay {w' : World} {l' : List Nat} (c : Ch (fun q => q = BF) w w') (hb : BfAt w' BF l') (hl : l'.length = N) : HAg W k p sz ia ib PS BK b BF N P7 C7 l' w' := by
  have n1 : ∀ i, i < sz → ∀ x, EB (p i) x → ¬ x = BF := fun i hi x hx q => h.fe i hi (by rw [← q]; exact hx)
  have n2 : ∀ x, BB BK b x → ¬ x = BF := fun x hx q => h.fb (by rw [← q]; exact hx)
  have h0 := h.pl
  refine ⟨⟨fun i hi => (h0.ok i hi).ch c (n1 i hi), h0.tk, h0.lo, h0.dj, h0.ha, h0.hb, h0.ps.ch c (fun q => h.fp q.symm), h0.psl, h0.psn, h0.bk.ch c n2, h0.mb, h0.mg, h0.le, h0.lg, h0.bl, h0.bd, h0.bp, h0.bel.trans (c.below (fun x q => by have q' : x = BF := q; rw [q']; exact h.fo) h0.bel.size)⟩, hb, hl, h.fo, h.fe, h.fb, h.fp, h.pr.ch c h.p7f, h.p7e, h.p7b, h.p7f⟩
end
end H11
end Go.Proofs.Ytfahfbpobmpccaa
