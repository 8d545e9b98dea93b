/-
  Layer 15: what else holds of every cache's entries: a known one that is not being asked has no tries, an asked one no MAC.
-/
import Derived.Test.YtnpipngiehohgaaNgInv
namespace Go.Proofs.Ytnpipngiehohgaa
open Go.RowKit Go.Maps

structure N2 (n : EN) : Prop where
  t0 : n.st = 2 ∨ n.st = 3 → n.tr = 0
  m0 : n.st = 1 → n.m = mz
def E2 (E : List EV) : Prop := ∀ e ∈ E, N2 e.n
theorem E2.nil : E2 [] := fun e he => by cases he
theorem E2.upd {E : List EV} {k : KV} {e' : EV} (h : E2 E) (he : N2 e'.n) : E2 (updE E k e') := fun a ha => by
  rcases upd_mem ha with rfl | ⟨h1, _⟩
  · exact he
  · exact h a h1
theorem AddR.n2 {c : CF} {E E' : List EV} {e : EV} {er : Int} (h : AddR c E e er E') (hE : E2 E) (he : N2 e.n) : E2 E' := by
  rcases h with ⟨_, _, rfl⟩ | ⟨_, _, _, rfl⟩ | ⟨_, s, _, _, rfl⟩
  · intro a ha
    rcases List.mem_append.1 ha with ha | ha
    · exact hE a ha
    · simp only [List.mem_singleton] at ha; subst ha; exact he
  · exact hE
  · intro a ha
    rcases List.mem_append.1 ha with ha | ha
    · exact hE a (List.mem_filter.1 ha).1
    · simp only [List.mem_singleton] at ha; subst ha; exact he
theorem WantR.n2 {c : CF} {E E' : List EV} {k : KV} {item : Int} {m : Nat → Nat} {oc er : Int} (hE : E2 E) (h : WantR c E k item E' m oc er) : E2 E' := by
  rcases h with ⟨_, rfl, _⟩ | ⟨_, ⟨_, e, he, ha, _⟩ | ⟨e, hf, h | h | h | h⟩⟩
  · exact hE
  · refine ha.n2 hE ?_
    rw [he]
    exact ⟨fun h => (by rcases h with h | h <;> cases h), fun _ => rfl⟩
  · obtain ⟨_, _, rfl, _⟩ := h
    exact hE
  · obtain ⟨hs, _, ⟨lv', rfl⟩, _⟩ := h
    have hn := hE e (fE_some hf).1
    exact hE.upd ⟨hn.t0, hn.m0⟩
  · obtain ⟨_, rfl, _⟩ := h
    exact hE.upd ⟨fun h => (by rcases h with h | h <;> cases h), fun h => (by cases h)⟩
  · obtain ⟨_, _, rfl, _⟩ := h
    exact hE
theorem LearnR.n2 {c : CF} {E E' : List EV} {k : KV} {m : Nat → Nat} {how : Int} {v : Value} {l : List Int} {er : Int} (hE : E2 E) (h : LearnR c E k m how E' v l er) : E2 E' := by
  rcases h with ⟨_, rfl, _⟩ | ⟨_, ⟨_, _, ⟨e, he, ha⟩, _⟩ | ⟨_, _, rfl, _⟩ | ⟨e, hf, h | h | h⟩⟩
  · exact hE
  · refine ha.n2 hE ?_
    rw [he]
    exact ⟨fun _ => rfl, fun h => (by cases h)⟩
  · exact hE
  · obtain ⟨_, rfl, _⟩ := h
    exact hE.upd ⟨fun _ => rfl, fun h => (by cases h)⟩
  · obtain ⟨_, _, rfl, _⟩ := h
    exact hE.upd ⟨fun _ => rfl, fun h => (by cases h)⟩
  · obtain ⟨_, _, rfl, _⟩ := h
    exact hE
theorem oldN_n2 {c : CF} {n : EN} (h : N2 n) : N2 (oldN c n) := by
  unfold oldN
  split
  · exact ⟨fun _ => rfl, fun h => (by cases h)⟩
  · exact ⟨h.t0, h.m0⟩
theorem tickE_n2 {c : CF} {e y : EV} (h : N2 e.n) (hy : tickE c e = some y) : N2 y.n := by
  unfold tickE at hy
  by_cases hd : dueB c e.n = true
  · rw [if_pos hd] at hy
    unfold dueB at hd
    simp only [Bool.and_eq_true, Bool.or_eq_true, beq_iff_eq] at hd
    have ho : oldN c e.n = { e.n with ag := agI e.n } := by
      unfold oldN
      rw [if_neg (by rcases hd.1 with q | q <;> omega)]
    unfold tkE ag1 at hy
    rw [ho] at hy
    split at hy
    · cases hy
      refine ⟨fun q => ?_, h.m0⟩
      have q' : e.n.st = 2 ∨ e.n.st = 3 := q
      rcases hd.1 with p | p <;> omega
    · cases hy
  · rw [if_neg hd] at hy
    cases hy
    exact oldN_n2 h
theorem tick_n2 {c : CF} {E : List EV} (hE : E2 E) : E2 (E.filterMap (tickE c)) := fun a ha => by
  obtain ⟨e, he, hy⟩ := List.mem_filterMap.1 ha
  exact tickE_n2 (hE e he) hy
/-- under it the program's and the reference's older say the same -/
theorem oldN_same {c : CF} {n : EN} (h : N2 n) : oldN c n = (if n.st = 2 ∧ agI n = c.fr then { n with st := 3, ag := 0 } else { n with ag := agI n }) := by
  unfold oldN
  by_cases h1 : n.st = 2 ∧ agI n = c.fr
  · rw [if_pos h1, if_pos h1, h.t0 (.inl h1.1)]
  · rw [if_neg h1, if_neg h1]
end Go.Proofs.Ytnpipngiehohgaa
