/-
  Layer 15: a cache's entries and the reference's list of them, in numbers.
-/
import Derived.Test.YtnpipngiehohgaaNgInv2
namespace Go.Proofs.Ytnpipngiehohgaa
open Go.RowKit Go.Maps

/-- N is E's numbers, in order -/
def Rep (E : List EV) (N : List EN) : Prop := N.Perm (E.map (fun e => e.n)) ∧ N.Pairwise (fun a b => lt3 a.k b.k)
theorem Rep.nil : Rep [] [] := ⟨List.Perm.refl _, List.Pairwise.nil⟩
theorem Srt.rep {E S : List EV} (h : Srt E S) : Rep E (S.map (fun e => e.n)) := ⟨h.1.map _, List.pairwise_map.2 h.2⟩
theorem sortedN_eq : ∀ (xs ys : List EN), xs.Pairwise (fun a b => lt3 a.k b.k) → ys.Pairwise (fun a b => lt3 a.k b.k) → (∀ s, s ∈ xs ↔ s ∈ ys) → xs = ys
  | [], [], _, _, _ => rfl
  | [], b :: _, _, _, h => by have := (h b).2 (by simp); cases this
  | a :: _, [], _, _, h => by have := (h a).1 (by simp); cases this
  | a :: xs, b :: ys, h1, h2, h => by
    obtain ⟨a1, a2⟩ := List.pairwise_cons.1 h1
    obtain ⟨b1, b2⟩ := List.pairwise_cons.1 h2
    have hab : a = b := by
      rcases List.mem_cons.1 ((h a).1 (by simp)) with e | e
      · exact e
      · rcases List.mem_cons.1 ((h b).2 (by simp)) with e' | e'
        · exact e'.symm
        · exact absurd (lt3_trans (a1 b e') (b1 a e)) (lt3_irr a.k)
    subst hab
    rw [sortedN_eq xs ys a2 b2 (fun s => ?_)]
    constructor
    · intro hs
      rcases List.mem_cons.1 ((h s).1 (List.mem_cons_of_mem _ hs)) with e | e
      · rw [e] at hs; exact absurd (a1 a hs) (lt3_irr a.k)
      · exact e
    · intro hs
      rcases List.mem_cons.1 ((h s).2 (List.mem_cons_of_mem _ hs)) with e | e
      · rw [e] at hs; exact absurd (b1 a hs) (lt3_irr a.k)
      · exact e
theorem Rep.same {E : List EV} {N N' : List EN} (h : Rep E N) (h' : Rep E N') : N = N' := sortedN_eq N N' h.2 h'.2 (fun _ => h.1.mem_iff.trans h'.1.mem_iff.symm)
theorem Rep.mem {E : List EV} {N : List EN} (h : Rep E N) {a : EN} : a ∈ N ↔ ∃ e ∈ E, e.n = a := by rw [h.1.mem_iff, List.mem_map]
theorem Rep.len {E : List EV} {N : List EN} (h : Rep E N) : N.length = E.length := by rw [h.1.length_eq, List.length_map]
theorem Rep.fno {E : List EV} {N : List EN} (h : Rep E N) {k : KV} : fE E k = none ↔ ∀ a ∈ N, eqP a.k k = false := by
  unfold fE
  rw [List.find?_eq_none]
  constructor
  · intro hn a ha
    obtain ⟨e, he, rfl⟩ := h.mem.1 ha
    simpa using hn e he
  · intro hn e he
    have := hn e.n (h.mem.2 ⟨e, he, rfl⟩)
    simpa using this
theorem Rep.fso {E : List EV} {N : List EN} (h : Rep E N) {k : KV} {e : EV} (hf : fE E k = some e) : ∃ i : Nat, N[i]? = some e.n ∧ eqP e.n.k k = true := by
  obtain ⟨h1, h2⟩ := fE_some hf
  obtain ⟨i, hi, e2⟩ := List.getElem_of_mem (h.mem.2 ⟨e, h1, rfl⟩)
  exact ⟨i, by rw [List.getElem?_eq_getElem hi, e2], h2⟩
theorem pw_k {N : List EN} : N.Pairwise (fun a b => lt3 a.k b.k) ↔ (N.map (fun a => a.k)).Pairwise lt3 := List.pairwise_map.symm
/-- one entry turned -/
theorem Rep.upd {E : List EV} {N : List EN} (h : Rep E N) {k : KV} {i : Nat} {a : EN} {e' : EV} (hi : N[i]? = .some a) (hk : eqP a.k k = true) (hk' : e'.n.k = a.k) : Rep (updE E k e') (N.set i e'.n) := by
  obtain ⟨hlt, ha⟩ := List.getElem?_eq_some_iff.1 hi
  have hset : N.set i e'.n = N.map (fun b => if eqP b.k k then e'.n else b) := by
    apply List.ext_getElem
    · simp
    · intro j h1 h2
      rw [List.getElem_map, List.getElem_set]
      have hj : j < N.length := by simpa using h1
      by_cases hij : i = j
      · subst hij
        rw [if_pos rfl, ha, if_pos hk]
      · rw [if_neg hij, if_neg]
        intro he
        have h3 : eqP N[j].k a.k = true := eqP_trans he (by rw [eqP_comm]; exact hk)
        rcases Nat.lt_or_gt_of_ne hij with hl | hl
        · have h4 := List.pairwise_iff_getElem.1 h.2 i j hlt hj hl
          rw [ha] at h4
          have h5 := lt3_ne h4
          rw [eqP_comm, h3] at h5
          cases h5
        · have h4 := List.pairwise_iff_getElem.1 h.2 j i hj hlt hl
          rw [ha] at h4
          have h5 := lt3_ne h4
          rw [h3] at h5
          cases h5
  refine ⟨?_, ?_⟩
  · rw [hset]
    have e1 : (updE E k e').map (fun e => e.n) = (E.map (fun e => e.n)).map (fun b => if eqP b.k k then e'.n else b) := by
      unfold updE
      rw [List.map_map, List.map_map]
      apply List.map_congr_left
      intro e _
      show (if eqP e.n.k k = true then e' else e).n = if eqP e.n.k k = true then e'.n else e.n
      split <;> rfl
    rw [e1]
    exact h.1.map _
  · rw [pw_k, List.map_set, hk', ← ha, show (N.map (fun a => a.k)).set i N[i].k = N.map (fun a => a.k) from by
      have : N[i].k = (N.map (fun a => a.k))[i]'(by simpa using hlt) := by rw [List.getElem_map]
      rw [this, List.set_getElem_self]]
    exact pw_k.1 h.2
/-- a new entry -/
theorem Rep.add {E : List EV} {N : List EN} (h : Rep E N) {e : EV} {p : Nat} (hp : p ≤ N.length) (hw : ∀ a ∈ N, a.k.Wf) (he : e.n.k.Wf) (hn : ∀ a ∈ N, eqP a.k e.n.k = false) (h1 : ∀ j a, j < p → N[j]? = .some a → lt3 a.k e.n.k) (h2 : ∀ a, N[p]? = .some a → ¬ lt3 a.k e.n.k) : Rep (E ++ [e]) (N.take p ++ e.n :: N.drop p) := by
  refine ⟨?_, ?_⟩
  · have e1 : (N.take p ++ e.n :: N.drop p).Perm (e.n :: N) := by
      have := List.perm_middle (a := e.n) (l₁ := N.take p) (l₂ := N.drop p)
      rwa [List.take_append_drop] at this
    refine e1.trans ?_
    rw [List.map_append]
    exact (List.Perm.cons _ h.1).trans (List.perm_append_singleton _ _).symm
  · rw [List.pairwise_append]
    refine ⟨h.2.sublist (List.take_sublist _ _), ?_, ?_⟩
    · rw [List.pairwise_cons]
      refine ⟨fun b hb => ?_, h.2.sublist (List.drop_sublist _ _)⟩
      have hpl : p < N.length := by
        refine Decidable.byContradiction (fun hc => ?_)
        rw [List.drop_of_length_le (by omega)] at hb
        cases hb
      have hx : lt3 e.n.k N[p].k := by
        have ha : N[p] ∈ N := List.getElem_mem hpl
        rcases tri N[p].k e.n.k (hw _ ha) he with t | t | t
        · exact absurd t (h2 _ (List.getElem?_eq_getElem hpl))
        · exact t
        · rw [hn _ ha] at t; cases t
      rw [List.drop_eq_getElem_cons hpl] at hb
      rcases List.mem_cons.1 hb with rfl | hb
      · exact hx
      · have hd : (N.drop p).Pairwise (fun a b => lt3 a.k b.k) := h.2.sublist (List.drop_sublist _ _)
        rw [List.drop_eq_getElem_cons hpl, List.pairwise_cons] at hd
        exact lt3_trans hx (hd.1 b hb)
    · intro a ha b hb
      obtain ⟨j, hj, rfl⟩ := List.getElem_of_mem ha
      have hj' : j < p := by rw [List.length_take] at hj; omega
      have hjN : j < N.length := by omega
      have haj : lt3 N[j].k e.n.k := h1 j _ hj' (List.getElem?_eq_getElem hjN)
      rw [List.getElem_take]
      rcases List.mem_cons.1 hb with rfl | hb
      · exact haj
      · obtain ⟨i, hi, rfl⟩ := List.getElem_of_mem hb
        rw [List.getElem_drop]
        exact List.pairwise_iff_getElem.1 h.2 j (p + i) hjN (by rw [List.length_drop] at hi; omega) (by omega)
/-- how many items wait -/
theorem Rep.wait {E : List EV} {N : List EN} (h : Rep E N) : (N.map (fun a => a.ln.length)).foldr (· + ·) 0 = waitN E := by
  unfold waitN
  have h1 := h.1.map (fun a : EN => a.ln.length)
  rw [List.map_map] at h1
  have key : ∀ {l m : List Nat}, l.Perm m → l.foldr (· + ·) 0 = m.foldr (· + ·) 0 := fun hp => by
    induction hp with
    | nil => rfl
    | cons x _ ih => simp only [List.foldr_cons, ih]
    | swap x y l => simp only [List.foldr_cons]; omega
    | trans _ _ ih1 ih2 => exact ih1.trans ih2
  exact key h1
end Go.Proofs.Ytnpipngiehohgaa
