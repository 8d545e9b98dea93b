/-
  Layer 15: what holds of every cache's entries, kept by Want, Learn and Tick; one list for one set of entries.
-/
import Derived.Test.YtnpipngiehohgaaNgAll
namespace Go.Proofs.Ytnpipngiehohgaa
open Go.RowKit Go.Maps

structure CfOk (c : CF) : Prop where
  mx : 1 ≤ c.mx ∧ c.mx ≤ 1024
  li : 1 ≤ c.li ∧ c.li ≤ 64
  ev : 1 ≤ c.ev ∧ c.ev ≤ 1048576
  tr : 1 ≤ c.tr ∧ c.tr ≤ 16
  fr : 1 ≤ c.fr ∧ c.fr ≤ 1048576
theorem cfB_ok {c : CF} (h : cfB c = true) : CfOk c := by
  unfold cfB inR at h
  simp only [Bool.and_eq_true, decide_eq_true_eq] at h
  obtain ⟨⟨⟨⟨h1, h2⟩, h3⟩, h4⟩, h5⟩ := h
  exact ⟨h1, h2, h3, h4, h5⟩
/-- an entry that may be -/
structure NOk (c : CF) (n : EN) : Prop where
  st : n.st = 1 ∨ n.st = 2 ∨ n.st = 3 ∨ n.st = 4
  a0 : 0 ≤ n.ag
  a1 : n.st = 1 ∨ n.st = 4 → n.ag < c.ev
  a2 : n.st = 2 → n.ag < c.fr
  a3 : n.st = 3 → n.ag ≤ 1048576
  tr : 0 ≤ n.tr
  ln : (n.ln.length : Int) ≤ c.li
  aw : n.st = 1 ↔ n.ln ≠ []
def EOk (c : CF) (E : List EV) : Prop := (E.length : Int) ≤ c.mx ∧ ∀ e ∈ E, NOk c e.n
theorem NOk.age {c : CF} {n : EN} (hc : CfOk c) (h : NOk c n) : 0 ≤ n.ag ∧ n.ag ≤ 1048576 := by
  have h1 := hc.ev
  have h2 := hc.fr
  refine ⟨h.a0, ?_⟩
  rcases h.st with e | e | e | e
  · have := h.a1 (.inl e); omega
  · have := h.a2 e; omega
  · exact h.a3 e
  · have := h.a1 (.inr e); omega
theorem EOk.len {c : CF} {E : List EV} (hc : CfOk c) (h : EOk c E) : E.length ≤ 1024 := by have := h.1; have := hc.mx; omega
theorem EOk.lns {c : CF} {E : List EV} (hc : CfOk c) (h : EOk c E) : ∀ e ∈ E, e.n.ln.length ≤ 64 := fun e he => by have := (h.2 e he).ln; have := hc.li; omega
theorem len_delE {E : List EV} {k : KV} {e : EV} (d : Dj E) (h : fE E k = some e) : (delE E k).length + 1 = E.length := by
  have h1 := len_del (E.map EV.kp) k (List.pairwise_map.2 d)
  rw [del_map, fnd_fE, h, List.length_map, List.length_map] at h1
  exact h1
theorem AddR.ok {c : CF} {E E' : List EV} {e : EV} {er : Int} (d : Dj E) (h : AddR c E e er E') (hE : EOk c E) (he : NOk c e.n) : EOk c E' ∧ (er ≠ 0 → E' = E) := by
  rcases h with ⟨h1, rfl, rfl⟩ | ⟨h1, _, rfl, rfl⟩ | ⟨h1, s, h2, rfl, rfl⟩
  · refine ⟨⟨?_, fun a ha => ?_⟩, fun h => absurd rfl h⟩
    · rw [List.length_append]
      have := hE.1
      simp
      omega
    · rcases List.mem_append.1 ha with ha | ha
      · exact hE.2 a ha
      · simp only [List.mem_singleton] at ha; subst ha; exact he
  · exact ⟨hE, fun _ => rfl⟩
  · refine ⟨⟨?_, fun a ha => ?_⟩, fun h => absurd rfl h⟩
    · rw [List.length_append]
      have h3 := len_delE d (fE_mem d h2.1 (eqP_refl s.n.k))
      have := hE.1
      simp
      omega
    · rcases List.mem_append.1 ha with ha | ha
      · exact hE.2 a (List.mem_filter.1 ha).1
      · simp only [List.mem_singleton] at ha; subst ha; exact he
theorem upd_ok {c : CF} {E : List EV} {k : KV} {e' : EV} (hE : EOk c E) (he : NOk c e'.n) : EOk c (updE E k e') := by
  refine ⟨by unfold updE; rw [List.length_map]; exact hE.1, fun a ha => ?_⟩
  rcases upd_mem ha with rfl | ⟨h1, _⟩
  · exact he
  · exact hE.2 a h1
theorem WantR.ok {c : CF} {E E' : List EV} {k : KV} {item : Int} {m : Nat → Nat} {oc er : Int} (hc : CfOk c) (d : Dj E) (hE : EOk c E) (h : WantR c E k item E' m oc er) : EOk c E' ∧ (er ≠ 0 → E' = E) := by
  have h1 := hc.ev
  have h2 := hc.li
  rcases h with ⟨_, rfl, _⟩ | ⟨_, ⟨_, e, he, ha, _⟩ | ⟨e, hf, h | h | h | h⟩⟩
  · exact ⟨hE, fun _ => rfl⟩
  · refine ha.ok d hE ?_
    rw [he]
    exact ⟨.inl rfl, Int.le_refl _, fun _ => (by show (0 : Int) < c.ev; omega), fun h => (by cases h), fun h => (by cases h), (by show (0 : Int) ≤ 1; omega), (by show ((1 : Nat) : Int) ≤ c.li; omega), ⟨fun _ h => (by cases h), fun _ => rfl⟩⟩
  · obtain ⟨_, _, rfl, _⟩ := h
    exact ⟨hE, fun _ => rfl⟩
  · obtain ⟨hs, hn, ⟨lv', rfl⟩, _, _, rfl⟩ := h
    have hn0 := hE.2 e (fE_some hf).1
    refine ⟨upd_ok hE ⟨hn0.st, hn0.a0, hn0.a1, hn0.a2, hn0.a3, hn0.tr, ?_, ⟨fun _ h => ?_, fun _ => hs⟩⟩, fun h => absurd rfl h⟩
    · have h3 := hn0.ln
      show (((e.n.ln ++ [item]).length : Nat) : Int) ≤ c.li
      rw [List.length_append]
      simp
      omega
    · have h' : e.n.ln ++ [item] = [] := h
      simp at h'
  · obtain ⟨hs, rfl, _, _, rfl⟩ := h
    have hn0 := hE.2 e (fE_some hf).1
    refine ⟨upd_ok hE ⟨.inr (.inr (.inr rfl)), Int.le_refl _, fun _ => (by show (0 : Int) < c.ev; omega), fun h => (by cases h), fun h => (by cases h), (by show (0 : Int) ≤ 1; omega), hn0.ln, ⟨fun h => (by cases h), fun h => ?_⟩⟩, fun h => absurd rfl h⟩
    have := hn0.aw.2 h
    omega
  · obtain ⟨_, _, rfl, _⟩ := h
    exact ⟨hE, fun _ => rfl⟩
theorem LearnR.ok {c : CF} {E E' : List EV} {k : KV} {m : Nat → Nat} {how : Int} {v : Value} {l : List Int} {er : Int} (hc : CfOk c) (d : Dj E) (hE : EOk c E) (h : LearnR c E k m how E' v l er) : EOk c E' ∧ (er ≠ 0 → E' = E) := by
  have h1 := hc.fr
  have h2 := hc.li
  rcases h with ⟨_, rfl, _⟩ | ⟨_, ⟨_, _, ⟨e, he, ha⟩, _⟩ | ⟨_, _, rfl, _⟩ | ⟨e, hf, h | h | h⟩⟩
  · exact ⟨hE, fun _ => rfl⟩
  · refine ha.ok d hE ?_
    rw [he]
    exact ⟨.inr (.inr (.inl rfl)), Int.le_refl _, fun h => (by rcases h with h | h <;> cases h), fun h => (by cases h), fun _ => (by show (0 : Int) ≤ 1048576; omega), Int.le_refl _, (by show ((0 : Nat) : Int) ≤ c.li; omega), ⟨fun h => (by cases h), fun h => absurd rfl h⟩⟩
  · exact ⟨hE, fun _ => rfl⟩
  · obtain ⟨_, rfl, _, _, rfl⟩ := h
    exact ⟨upd_ok hE ⟨.inr (.inl rfl), Int.le_refl _, fun h => (by rcases h with h | h <;> cases h), fun _ => (by show (0 : Int) < c.fr; omega), fun h => (by cases h), Int.le_refl _, (by show ((0 : Nat) : Int) ≤ c.li; omega), ⟨fun h => (by cases h), fun h => absurd rfl h⟩⟩, fun h => absurd rfl h⟩
  · obtain ⟨_, _, rfl, _, _, rfl⟩ := h
    exact ⟨upd_ok hE ⟨.inr (.inr (.inl rfl)), Int.le_refl _, fun h => (by rcases h with h | h <;> cases h), fun h => (by cases h), fun _ => (by show (0 : Int) ≤ 1048576; omega), Int.le_refl _, (by show ((0 : Nat) : Int) ≤ c.li; omega), ⟨fun h => (by cases h), fun h => absurd rfl h⟩⟩, fun h => absurd rfl h⟩
  · obtain ⟨_, _, rfl, _⟩ := h
    exact ⟨hE, fun _ => rfl⟩
theorem tickE_ok {c : CF} {e y : EV} (hc : CfOk c) (h : NOk c e.n) (hy : tickE c e = some y) : NOk c y.n := by
  have h1 := hc.ev
  have h2 := hc.fr
  unfold tickE at hy
  by_cases hd : dueB c e.n = true
  · rw [if_pos hd] at hy
    unfold dueB at hd
    simp only [Bool.and_eq_true, Bool.or_eq_true, beq_iff_eq] at hd
    have ho : oldN c e.n = { e.n with ag := agI e.n } := by
      unfold oldN
      rw [if_neg (by rcases hd.1 with q | q <;> omega)]
    unfold tkE ag1 at hy
    rw [ho] at hy
    split at hy
    · cases hy
      refine ⟨h.st, Int.le_refl _, fun _ => (by show (0 : Int) < c.ev; omega), fun q => ?_, fun q => ?_, (by show (0 : Int) ≤ e.n.tr + 1; have := h.tr; omega), h.ln, h.aw⟩
      · have q' : e.n.st = 2 := q
        rcases hd.1 with p | p <;> omega
      · show (0 : Int) ≤ 1048576; omega
    · cases hy
  · rw [if_neg hd] at hy
    cases hy
    have hd' : ¬ ((e.n.st = 1 ∨ e.n.st = 4) ∧ agI e.n = c.ev) := fun q => hd (by unfold dueB; simp only [Bool.and_eq_true, Bool.or_eq_true, beq_iff_eq]; exact q)
    unfold ag1 oldN
    split
    · exact ⟨.inr (.inr (.inl rfl)), Int.le_refl _, fun q => (by rcases q with q | q <;> cases q), fun q => (by cases q), fun _ => (by show (0 : Int) ≤ 1048576; omega), Int.le_refl _, h.ln, ⟨fun q => (by cases q), fun q => (by rename_i hif; have := h.aw.2 q; omega)⟩⟩
    · rename_i hif
      have ha : agI e.n = e.n.ag + 1 ∨ (e.n.st = 3 ∧ agI e.n = e.n.ag) := by
        unfold agI
        split
        · rename_i q; exact .inr ⟨q.1, rfl⟩
        · exact .inl rfl
      have ha3 : e.n.st = 3 → agI e.n ≤ 1048576 := fun q => by
        unfold agI
        split
        · exact h.a3 q
        · rename_i p; have := h.a3 q; omega
      refine ⟨h.st, ?_, fun q => ?_, fun q => ?_, ha3, h.tr, h.ln, h.aw⟩
      · show 0 ≤ agI e.n
        have := h.a0
        rcases ha with ha | ⟨_, ha⟩ <;> omega
      · show agI e.n < c.ev
        have q' : e.n.st = 1 ∨ e.n.st = 4 := q
        have p1 := h.a1 q'
        have p2 : agI e.n ≠ c.ev := fun p => hd' ⟨q', p⟩
        rcases ha with ha | ⟨ha, _⟩
        · omega
        · rcases q' with q' | q' <;> omega
      · show agI e.n < c.fr
        have q' : e.n.st = 2 := q
        have p1 := h.a2 q'
        have p2 : agI e.n ≠ c.fr := fun p => hif ⟨q', p⟩
        rcases ha with ha | ⟨ha, _⟩
        · omega
        · omega
theorem tick_ok {c : CF} {E : List EV} (hc : CfOk c) (hE : EOk c E) : EOk c (E.filterMap (tickE c)) := by
  refine ⟨?_, fun a ha => ?_⟩
  · have h1 := hE.1
    have h2 := List.length_filterMap_le (tickE c) E
    omega
  · obtain ⟨e, he, hy⟩ := List.mem_filterMap.1 ha
    exact tickE_ok hc (hE.2 e he) hy
/-- one list for one set of entries -/
theorem sorted_eq : ∀ (xs ys : List EV), xs.Pairwise (fun a b => lt3 a.n.k b.n.k) → ys.Pairwise (fun a b => lt3 a.n.k b.n.k) → (∀ s, s ∈ xs ↔ s ∈ ys) → xs = ys
  | [], [], _, _, _ => rfl
  | [], b :: _, _, _, h => by have := (h b).2 (by simp); cases this
  | a :: _, [], _, _, h => by have := (h a).1 (by simp); cases this
  | a :: xs, b :: ys, h1, h2, h => by
    obtain ⟨a1, a2⟩ := List.pairwise_cons.1 h1
    obtain ⟨b1, b2⟩ := List.pairwise_cons.1 h2
    have hab : a = b := by
      rcases List.mem_cons.1 ((h a).1 (by simp)) with e | e
      · exact e
      · rcases List.mem_cons.1 ((h b).2 (by simp)) with e' | e'
        · exact e'.symm
        · exact absurd (lt3_trans (a1 b e') (b1 a e)) (lt3_irr a.n.k)
    subst hab
    rw [sorted_eq xs ys a2 b2 (fun s => ?_)]
    constructor
    · intro hs
      rcases List.mem_cons.1 ((h s).1 (List.mem_cons_of_mem _ hs)) with e | e
      · rw [e] at hs; exact absurd (a1 a hs) (lt3_irr a.n.k)
      · exact e
    · intro hs
      rcases List.mem_cons.1 ((h s).2 (List.mem_cons_of_mem _ hs)) with e | e
      · rw [e] at hs; exact absurd (b1 a hs) (lt3_irr a.n.k)
      · exact e
theorem Srt.same {E S S' : List EV} (h : Srt E S) (h' : Srt E S') : S = S' := sorted_eq S S' h.2 h'.2 (fun _ => h.1.mem_iff.trans h'.1.mem_iff.symm)
end Go.Proofs.Ytnpipngiehohgaa
