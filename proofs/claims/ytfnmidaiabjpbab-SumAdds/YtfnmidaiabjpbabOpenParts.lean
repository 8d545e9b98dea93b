/-
  A list of byte strings that came in: what its reading tells of memory.
-/
import Derived.Test.YtfnmidaiabjpbabSum3
import Derived.Deep.Slices
import Derived.ProofKit
import Derived.OpenShut
namespace Go.Proofs.Ytfnmidaiabjpbab
open Go.RowKit Go.ChangeShapes Go.WideShapes

theorem Try.cellsBytes : Try.prog.cellsOf 24 = 1 := by kernel_rfl
theorem Try.cellsByte : Try.prog.cellsOf 5 = 1 := by kernel_rfl

theorem open_part {H : Type} {enc : TypeId × Value → H} {W : World} {fuel : Nat} {c : Value} {y : DataW H × List MemPlace}
    (h : DataW.trod enc Try.prog W 0 (fun _ => true) true fuel 24 [c] = some y) : ∃ p : Part, c = p.val ∧ p.ok W := by
  rcases open_ints Try.underlying24 Try.underlying5 Try.cellsByte h with ⟨hcs, _⟩ | ⟨x, l, cp, zs, hcs, _, hl, hm, hz, _, hcell, hwz⟩
  · simp only [List.cons.injEq, and_true] at hcs
    subst hcs
    exact ⟨⟨none, 0, []⟩, rfl, .inl rfl, (fun x hx => by cases hx), Nat.le_refl _, by show 0 ≤ _; omega⟩
  · simp only [List.cons.injEq, and_true] at hcs
    subst hcs
    have hr : IsRow .u8 W (some x) l cp zs := .inr ⟨_, rfl, hl, hm, by simpa using hz, hcell, hwz⟩
    obtain ⟨bs, hbl, hbs, h1, h2, h256⟩ := hr.bytes
    exact ⟨⟨some x, cp, bs⟩, by rw [Part.val, hbl], hbs, h256, by show bs.length ≤ cp; omega, h2⟩

theorem open_parts {H : Type} {enc : TypeId × Value → H} {W : World} {a : Option Addr} {len cap : Nat} {y : DataW H × List MemPlace} {fuel : Nat}
    (h : DataW.trod enc Try.prog W 0 (fun _ => true) true fuel 22 [.slice a len cap] = some y) : ∃ ps : List Part, ps.length = len ∧ Parts W a ps ∧ len ≤ 9223372036854775807 := by
  rcases Deep.open_slice1 Try.underlying22 Try.cellsBytes h with ⟨hcs, _⟩ | ⟨ad, l, c, m, n, V, D, Pl, hcs, _, hl, hm, hmm, _, hel⟩
  · simp only [List.cons.injEq, Value.slice.injEq, and_true] at hcs
    obtain ⟨rfl, rfl, rfl⟩ := hcs
    exact ⟨[], rfl, ⟨.inl rfl, by intro p hp; cases hp⟩, by omega⟩
  · simp only [List.cons.injEq, Value.slice.injEq, and_true] at hcs
    obtain ⟨rfl, rfl, rfl⟩ := hcs
    simp only [if_true] at hmm
    subst hmm
    have hlen : len ≤ 9223372036854775807 := by unfold maxLen at hm; omega
    have hall : ∀ i, i < len → ∃ p : Part, p.ok W ∧ W.cell? (ad.add i) = some p.val := by
      intro i hi
      obtain ⟨h1, h2⟩ := hel i (by omega)
      obtain ⟨p, hp, hok⟩ := open_part h2
      exact ⟨p, hok, by rw [h1, hp]⟩
    have hbuild : ∀ k, k ≤ len → ∃ ps : List Part, ps.length = k ∧ ∀ i (hi : i < ps.length), ps[i].ok W ∧ W.cell? (ad.add i) = some ps[i].val := by
      intro k
      induction k with
      | zero => intro _; exact ⟨[], rfl, by intro i hi; simp at hi⟩
      | succ k ih =>
        intro hk
        obtain ⟨ps, hl', hps⟩ := ih (by omega)
        obtain ⟨p, hp⟩ := hall k (by omega)
        refine ⟨ps ++ [p], by simp [hl'], ?_⟩
        intro i hi
        by_cases hik : i < ps.length
        · rw [List.getElem_append_left hik]
          exact hps i hik
        · have hi0 : i = ps.length := by simp at hi; omega
          subst hi0
          simp only [List.getElem_append_right (Nat.le_refl _), Nat.sub_self, List.getElem_cons_zero]
          rw [hl']
          exact hp
    obtain ⟨ps, hpl, hps⟩ := hbuild len (Nat.le_refl _)
    refine ⟨ps, hpl, ⟨?_, fun p hp => ?_⟩, hlen⟩
    · by_cases h0 : ps = []
      · exact .inl h0
      · have hpos : 0 < ps.length := by
          cases ps with
          | nil => exact absurd rfl h0
          | cons _ _ => simp
        have hc0 := (hps 0 hpos).2
        obtain ⟨b, off, spot⟩ := ad
        have hspot : spot = none := by simpa [Addr.add] using World.cell?_spot hc0
        subst hspot
        refine .inr ⟨b, off, rfl, fun i hi => ?_⟩
        have := (hps i hi).2
        rwa [Addr.add_lit] at this
    · obtain ⟨i, hi, rfl⟩ := List.getElem_of_mem hp
      exact (hps i hi).1
end Go.Proofs.Ytfnmidaiabjpbab
