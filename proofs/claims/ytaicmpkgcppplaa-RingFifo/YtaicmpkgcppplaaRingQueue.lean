/-
  A list of byte strings that is lengthened behind and shortened ahead: a slice that goes along its row.
-/
import Derived.Test.YtaicmpkgcppplaaRingHelp
import Derived.ArgAppend
namespace Go.Proofs.Ytaicmpkgcppplaa
open Go.RowKit

def Qu (w : World) (base : Nat) (v : Value) (L : List Value) : Prop :=
  (v = .slice none 0 0 ∧ L = []) ∨ ∃ g k cap cur, v = .slice (some ⟨g, k, none⟩) L.length cap ∧ base ≤ g ∧ w.heap[g]? = some (.cells cur 30 (0, 0)) ∧ L.length ≤ cap ∧ k + cap ≤ cur.size ∧ ∀ i, i < L.length → cur[k + i]? = L[i]?
theorem Qu.shape {w : World} {base : Nat} {v : Value} {L : List Value} (h : Qu w base v L) : ∃ a c, v = .slice a L.length c := by
  rcases h with ⟨rfl, rfl⟩ | ⟨g, k, cap, cur, rfl, _⟩
  · exact ⟨none, 0, rfl⟩
  · exact ⟨_, _, rfl⟩
theorem Qu.ch {S : Nat → Prop} {w w' : World} {base : Nat} {v : Value} {L : List Value} (h : Qu w base v L) (k : Ch S w w') (hS : ∀ g, v.ownBlock = some g → ¬ S g) : Qu w' base v L := by
  rcases h with h | ⟨g, j, cap, cur, rfl, hb, hh, r⟩
  · exact .inl h
  · refine .inr ⟨g, j, cap, cur, rfl, hb, ?_, r⟩
    rw [k.block g (Array.getElem?_eq_some_iff.1 hh).1 (hS g rfl)]
    exact hh
theorem Qu.lt {w : World} {base : Nat} {v : Value} {L : List Value} (h : Qu w base v L) : ∀ g, v.ownBlock = some g → base ≤ g ∧ ∃ c, w.heap[g]? = some (.cells c 30 (0, 0)) := by
  intro q hq
  rcases h with ⟨rfl, _⟩ | ⟨g, j, cap, cur, rfl, hb, hh, _⟩
  · simp [Value.ownBlock] at hq
  · simp [Value.ownBlock] at hq
    subst hq
    exact ⟨hb, cur, hh⟩
theorem Qu.ofOwn {w : World} {base b : Nat} {v : Value} {n : Nat} {L : List Value} (h : w.ownsRow b 30 1 v n L) (hb : base ≤ b) : Qu w base v L := by
  have hl : L.length = n := by have := h.1; omega
  rcases h.2 with ⟨rfl, h0⟩ | ⟨g, cap, cur, rfl, hg, hh, hnc, _, hcs, ht⟩
  · exact .inl ⟨rfl, List.eq_nil_of_length_eq_zero (by omega)⟩
  · refine .inr ⟨g, 0, cap, cur, by rw [hl], by omega, hh, by omega, by omega, fun i hi => ?_⟩
    rw [Nat.zero_add, ← ht, Array.getElem?_toList.symm, List.getElem?_take_of_lt (by omega)]
/-- the first, and the rest -/
theorem Qu.first {w : World} {base : Nat} {v : Value} {x : Value} {L : List Value} (h : Qu w base v (x :: L)) : ∃ g k cap, v = .slice (some ⟨g, k, none⟩) (L.length + 1) cap ∧ 1 ≤ cap ∧ L.length + 1 ≤ cap ∧ w.cell? ⟨g, k, none⟩ = some x ∧ Qu w base (.slice (some ⟨g, k + 1, none⟩) L.length (cap - 1)) L := by
  rcases h with ⟨_, h0⟩ | ⟨g, k, cap, cur, rfl, hb, hh, h1, h2, hc⟩
  · cases h0
  · simp only [List.length_cons] at h1 hc
    refine ⟨g, k, cap, rfl, by omega, h1, ?_, .inr ⟨g, k + 1, cap - 1, cur, rfl, hb, hh, by omega, by omega, fun i hi => ?_⟩⟩
    · have := hc 0 (by omega)
      simp only [Nat.add_zero, List.getElem?_cons_zero] at this
      simp [World.cell?, hh, this]
    · have := hc (i + 1) (by omega)
      rw [List.getElem?_cons_succ] at this
      rw [← this]
      congr 1
      omega
theorem Qu.at {w : World} {base : Nat} {v : Value} {L : List Value} (h : Qu w base v L) (i : Nat) (x : Value) (hx : L[i]? = some x) : ∃ g k cap, v = .slice (some ⟨g, k, none⟩) L.length cap ∧ w.cell? ⟨g, k + i, none⟩ = some x := by
  have hi : i < L.length := (List.getElem?_eq_some_iff.1 hx).1
  rcases h with ⟨_, h0⟩ | ⟨g, k, cap, cur, rfl, hb, hh, h1, h2, hc⟩
  · rw [h0] at hi; simp at hi
  · refine ⟨g, k, cap, rfl, ?_⟩
    have := hc i hi
    rw [hx] at this
    simp [World.cell?, hh, this]
theorem Try.infoRow : (Try.prog.info? 30).map (fun i => (i.zero, i.size, i.bytes)) = some (some (.slice none 0 0), 1, 24) := by kernel_rfl
theorem append_queue {w : World} {ops : Array Oper} {rest : List Oper} {o : Oper} {a : Act} {Q : Exit → Act → World → Prop} (hgd : o.guard = none) (s x : Operand) (ho : o.op = .call { callee := .builtin .append, args := #[s, x], argTypes := #[31, 31] })
    {base : Nat} {v : Value} {L : List Value} (hs : a.eval s = v) (hq : Qu w base v L) (y : Value) (hy : y.oneCell' = true) (gy : Nat) (hx : a.eval x = .slice (some ⟨gy, 0, none⟩) 1 1) (hc : w.cell? ⟨gy, 0, none⟩ = some y) (hL : L.length ≤ 100000) (hb : base ≤ w.heap.size)
    (h : ∀ v' w', Qu w' base v' (L ++ [y]) → Ch (fun q => v.ownBlock = some q) w w' → (∀ q, v'.ownBlock = some q → v.ownBlock = some q ∨ w.heap.size ≤ q) → wpList Try.prog ops Q rest (a.put o.dst v') w') : wpList Try.prog ops Q (o :: rest) a w := by
  obtain ⟨i0, hi, hz0, hz1, hz2⟩ := info_parts Try.infoRow
  have hnews : ∀ j u, ([y] : List Value)[j]? = some u → w.cell? ((⟨gy, 0, none⟩ : Addr).add j) = some u := by
    intro j u hu
    have hj : j = 0 := by have := (List.getElem?_eq_some_iff.1 hu).1; simp at this; omega
    subst hj
    simp at hu
    subst hu
    rw [Addr.add_lit]
    exact hc
  rcases hq with ⟨rfl, rfl⟩ | ⟨g, k, cap, cur, rfl, hbg, hh, h1, h2, hcs⟩
  · refine wpList_append_grows w hgd s x 31 ho 30 i0 (.slice none 0 0) 1 24 Try.underlying31 hi hz0 hz1 hz2 rfl (by decide) none 0 0 [] hs (fun _ => ⟨rfl, rfl⟩) rfl (by intro b hb'; cases hb') ⟨gy, 0, none⟩ 1 1 [y] hx rfl hnews (by intro u hu; simp at hu; subst hu; exact hy) (by omega) (by unfold maxLen; omega) (by omega) ?_
    intro v' w' ho' hg'
    exact h v' w' (Qu.ofOwn ho' hb) ((Ch.ofGrown hg').mono (fun _ _ e => by cases e)) (fun q hq => .inr (ho'.lt q hq).1)
  · have hcell : ∀ i, k + i < cur.size → w.cell? ⟨g, k + i, none⟩ = cur[k + i]? := fun i hi' => by simp [World.cell?, hh]
    refine wpList_append_arg w hgd s x 31 ho 30 i0 (.slice none 0 0) 1 24 Try.underlying31 hi hz0 hz1 hz2 rfl (by decide) g k L.length cap L hs (by omega) (fun j u hu => ?_) ⟨gy, 0, none⟩ 1 1 [y] hx rfl hnews (by intro u hu; simp at hu; subst hu; exact hy) (fun hr j hj => ?_) (by unfold maxLen; omega) (by omega) (fun hr => ?_) (fun hr v' w' ho' hg' => ?_)
    · have hj : j < L.length := (List.getElem?_eq_some_iff.1 hu).1
      rw [hcell j (by omega), hcs j hj, hu]
    · have hj0 : j = 0 := by simp at hj; omega
      subst hj0
      rw [Nat.mul_one, Nat.add_zero]
      refine ⟨?_, by simp [World.frozen?, hh]⟩
      rw [hcell L.length (by omega), Array.getElem?_eq_getElem (by omega)]
      rfl
    · rw [Nat.mul_one]
      have e1 : w.setCells g (k + L.length) [y] = w.setCell ⟨g, k + L.length, none⟩ y := rfl
      rw [e1]
      have hk : Ch (fun q => (Value.slice (some ⟨g, k, none⟩) L.length cap).ownBlock = some q) w (w.setCell ⟨g, k + L.length, none⟩ y) := (Ch.refl _ w).set _ _ rfl
      have hh2 := heap_setCell_same w g (k + L.length) cur 30 y hh
      refine h _ _ (.inr ⟨g, k, cap, _, by rw [List.length_append]; rfl, hbg, hh2, by simp; omega, by simp; omega, fun i hi' => ?_⟩) hk (fun q hq => .inl hq)
      simp only [List.length_append, List.length_cons, List.length_nil] at hi'
      by_cases e : i = L.length
      · subst e
        simp [show k + L.length < cur.size by omega]
      · rw [List.getElem?_append_left (by omega), ← hcs i (by omega)]
        simp only [Array.getElem?_setIfInBounds]
        rw [if_neg (by omega)]
    · exact h v' w' (Qu.ofOwn ho' hb) ((Ch.ofGrown hg').mono (fun _ _ e => by cases e)) (fun q hq => .inr (ho'.lt q hq).1)
end Go.Proofs.Ytaicmpkgcppplaa
