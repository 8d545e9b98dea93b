/-
  Layer 14, RouteAny: two tables with the same routes answer alike, in numbers; one list for one set of routes.
-/
import Derived.Test.YtdjbfhllialinaaDoorRtSg
namespace Go.Proofs.YtdjbfhllialinaaDoor
open Go.RowKit Go.Maps

abbrev Dj (R : List RV) : Prop := R.Pairwise (fun a b => eqP a.p b.p = false)
theorem fnd_same {R R' : List RV} (d : Dj R) (d' : Dj R') (h : ∀ s, s ∈ R ↔ s ∈ R') (p : PV) : fnd R p = fnd R' p := by
  cases h1 : fnd R p with
  | some r =>
    obtain ⟨a, b⟩ := fnd_some h1
    exact (fnd_mem d' ((h r).1 a) b).symm
  | none =>
    cases h2 : fnd R' p with
    | none => rfl
    | some r =>
      obtain ⟨a, b⟩ := fnd_some h2
      rw [fnd_mem d ((h r).2 a) b] at h1
      cases h1
theorem fIP_same {R R' : List RV} (d : Dj R) (d' : Dj R') (h : ∀ s, s ∈ R ↔ s ∈ R') (V : Int) (x : Nat → Nat) : fIP R V x = fIP R' V x := by
  unfold fIP
  rw [show fnd R = fnd R' from funext (fnd_same d d' h)]
theorem find_congr {l : List PV} {f g : PV → Option RV} (h : ∀ p ∈ l, f p = g p) : l.findSome? f = l.findSome? g := by
  induction l with
  | nil => rfl
  | cons a l ih => rw [List.findSome?_cons, List.findSome?_cons, h a (by simp), ih (fun p hp => h p (List.mem_cons_of_mem _ hp))]
theorem fIP_add {R : List RV} {r : RV} (hv : vpE r.p = 0) (V : Int) (x : Nat → Nat) (hc : conB r.p V x = false) : fIP (R ++ [r]) V x = fIP R V x := by
  unfold fIP
  refine find_congr (fun p hp => ?_)
  obtain ⟨i, hi, rfl⟩ := List.mem_map.1 hp
  rw [fnd_snoc]
  have : eqP r.p (elP V x i) = false := by
    rw [Bool.eq_false_iff]
    intro e
    have := (con_iff V x hv).2 ⟨i, List.mem_range.1 hi, e⟩
    rw [hc] at this
    cases this
  rw [this]
  cases fnd R (elP V x i) <;> rfl
theorem fnd_none {R : List RV} {p : PV} (h : ∀ s ∈ R, eqP s.p p = false) : fnd R p = none := by
  unfold fnd
  rw [List.find?_eq_none]
  intro s hs
  rw [h s hs]
  decide
theorem add_rev {R : List RV} (d : Dj R) (hc : ∀ r ∈ R, chkR r = 0) (hl : R.length ≤ 256) (k : Nat) (r : RV) (hk : R[k]? = some r) : addE (R.drop (k + 1)).reverse r = 0 ∧ addR (R.drop (k + 1)).reverse r = (R.drop k).reverse := by
  have hlt := (List.getElem?_eq_some_iff.1 hk).1
  have hd : R.drop k = r :: R.drop (k + 1) := by
    rw [List.drop_eq_getElem_cons hlt]
    rw [List.getElem?_eq_getElem hlt] at hk
    rw [Option.some.inj hk]
  have hdj := d.sublist (List.drop_sublist k R)
  rw [hd] at hdj
  obtain ⟨d1, _⟩ := List.pairwise_cons.1 hdj
  have hf : fnd (R.drop (k + 1)).reverse r.p = none := fnd_none (fun s hs => by
    rw [eqP_comm]
    exact d1 s (List.mem_reverse.1 hs))
  have e : addE (R.drop (k + 1)).reverse r = 0 := by
    unfold addE
    rw [if_pos (hc r (List.mem_of_getElem? hk)), hf, if_neg (by decide), if_neg (by rw [List.length_reverse, List.length_drop]; omega)]
  refine ⟨e, ?_⟩
  unfold addR
  rw [if_pos e, hd, List.reverse_cons]
theorem del_snoc {R : List RV} {r : RV} (h : fnd R r.p = none) : del (R ++ [r]) r.p = R := by
  unfold del
  rw [List.filter_append]
  have h1 : R.filter (fun s => !(eqP s.p r.p)) = R := by
    rw [List.filter_eq_self]
    intro s hs
    unfold fnd at h
    have := (List.find?_eq_none.1 h) s hs
    simpa using this
  rw [h1]
  simp [eqP_refl]
theorem by16_same' (x y : Nat → Nat) (hx : ∀ i, i < 16 → x i < 256) (hy : ∀ i, i < 16 → y i < 256) (h : by16 x = by16 y) : same16 x y = true := by
  rw [same16_iff]
  intro i hi
  have h1 : (by16 x)[i]? = (by16 y)[i]? := by rw [h]
  simp [by16, Lib.bytesOf, toI, ipL, hi] at h1
  have h2 := congrArg UInt8.toNat h1
  have h3 := hx i hi
  have h4 := hy i hi
  simp at h2
  omega
theorem strict {a b : RV} (ha : ∀ i, i < 16 → a.p.x i < 256) (hb : ∀ i, i < 16 → b.p.x i < 256) (h : 0 ≤ ordV b a) (hd : eqP a.p b.p = false) : lt3 a b := by
  have h1 : ge3 b a := (not_lt3 b a).1 (fun e => by have := (ord_lt b a).2 e; omega)
  unfold ge3 at h1
  unfold lt3
  rcases h1 with e | ⟨e, c | ⟨c, hn⟩⟩
  · exact .inl e
  · exact .inr ⟨e.symm, .inl c⟩
  · refine .inr ⟨e.symm, .inr ⟨c.symm, ?_⟩⟩
    by_cases hn2 : a.p.n = b.p.n
    · have : eqP a.p b.p = true := by
        unfold eqP
        rw [by16_same' a.p.x b.p.x ha hb c.symm, e, hn2]
        simp
      rw [this] at hd
      cases hd
    · omega
theorem sorted_eq : ∀ (xs ys : List RV), xs.Pairwise lt3 → ys.Pairwise lt3 → (∀ s, s ∈ xs ↔ s ∈ ys) → xs = ys
  | [], [], _, _, _ => rfl
  | [], b :: _, _, _, h => by have := (h b).2 (by simp); cases this
  | a :: _, [], _, _, h => by have := (h a).1 (by simp); cases this
  | a :: xs, b :: ys, h1, h2, h => by
    obtain ⟨a1, a2⟩ := List.pairwise_cons.1 h1
    obtain ⟨b1, b2⟩ := List.pairwise_cons.1 h2
    have irr : ∀ s : RV, ¬ lt3 s s := fun s => (not_lt3 s s).2 (.inr ⟨rfl, .inr ⟨rfl, Int.le_refl _⟩⟩)
    have hab : a = b := by
      rcases List.mem_cons.1 ((h a).1 (by simp)) with e | e
      · exact e
      · rcases List.mem_cons.1 ((h b).2 (by simp)) with e' | e'
        · exact e'.symm
        · exact absurd (lt3_trans (a1 b e') (b1 a e)) (irr a)
    subst hab
    rw [sorted_eq xs ys a2 b2 (fun s => ?_)]
    constructor
    · intro hs
      rcases List.mem_cons.1 ((h s).1 (List.mem_cons_of_mem _ hs)) with e | e
      · rw [e] at hs; exact absurd (a1 a hs) (irr a)
      · exact e
    · intro hs
      rcases List.mem_cons.1 ((h s).2 (List.mem_cons_of_mem _ hs)) with e | e
      · rw [e] at hs; exact absurd (b1 a hs) (irr a)
      · exact e
theorem Srt.strict {R xs : List RV} (h : Srt R xs) (hw : ∀ r ∈ R, r.p.Wf) : xs.Pairwise lt3 := by
  have h1 := h.2.1.and h.2.2.1
  refine List.Pairwise.imp_of_mem ?_ h1
  intro a b ha hb hab
  exact Go.Proofs.YtdjbfhllialinaaDoor.strict (hw a ((h.1 a).1 ha)).x (hw b ((h.1 b).1 hb)).x hab.1 hab.2
theorem Srt.same {R R' xs ys : List RV} (h : Srt R xs) (h' : Srt R' ys) (hw : ∀ r ∈ R, r.p.Wf) (hR : ∀ s, s ∈ R ↔ s ∈ R') : xs = ys :=
  sorted_eq xs ys (h.strict hw) (h'.strict (fun r hr => hw r ((hR r).2 hr))) (fun s => (h.1 s).trans ((hR s).trans (h'.1 s).symm))
end Go.Proofs.YtdjbfhllialinaaDoor
