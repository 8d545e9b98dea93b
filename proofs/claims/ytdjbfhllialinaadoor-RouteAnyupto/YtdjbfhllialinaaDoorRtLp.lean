/-
  Layer 14, RouteLongest: Find, Matches and Contains of one table, in numbers.
-/
import Derived.Test.YtdjbfhllialinaaDoorRtFi
namespace Go.Proofs.YtdjbfhllialinaaDoor
open Go.RowKit Go.Maps

theorem vp_bit {p : PV} (h : vpE p = 0) : 0 ≤ p.n ∧ p.n ≤ (bitV p.V : Int) := by
  have hm : mkE p.V p.x p.n = 0 := by
    unfold vpE at h
    split at h
    · assumption
    · exact h
  unfold mkE at hm
  split at hm
  · omega
  · split at hm
    · omega
    · omega
theorem con_iff {r : RV} (V : Int) (x : Nat → Nat) (hv : vpE r.p = 0) : conB r.p V x = true ↔ ∃ i, i < cnP V x ∧ eqP r.p (elP V x i) = true := by
  unfold conB eqP elP cnP
  simp only [Bool.and_eq_true, beq_iff_eq]
  constructor
  · rintro ⟨⟨⟨_, h1⟩, h2⟩, h3⟩
    have hb := vp_bit hv
    rw [h2] at hb
    refine ⟨bitV V - r.p.n.toNat, by rw [if_pos h1]; omega, ⟨h2, ?_⟩, by omega⟩
    rw [show bitV V - (bitV V - r.p.n.toNat) = r.p.n.toNat by omega]
    rw [same16_iff] at h3 ⊢
    exact fun i hi => (h3 i hi).symm
  · rintro ⟨i, hi, ⟨h1, h2⟩, h3⟩
    have hvl : vld V x = true := by
      cases hq : vld V x with
      | true => rfl
      | false => rw [hq, if_neg (by decide)] at hi; omega
    refine ⟨⟨⟨hv, hvl⟩, h1⟩, ?_⟩
    rw [show r.p.n.toNat = bitV V - i by omega]
    rw [same16_iff] at h2 ⊢
    exact fun j hj => (h2 j hj).symm
theorem fnd_some {R : List RV} {p : PV} {r : RV} (h : fnd R p = some r) : r ∈ R ∧ eqP r.p p = true := by
  unfold fnd at h
  exact ⟨List.mem_of_find?_eq_some h, by have := List.find?_some h; exact this⟩
theorem fnd_mem {R : List RV} (dj : R.Pairwise (fun a b => eqP a.p b.p = false)) {r : RV} {p : PV} (hr : r ∈ R) (he : eqP r.p p = true) : fnd R p = some r := by
  induction R with
  | nil => cases hr
  | cons s R ih =>
    obtain ⟨d1, d2⟩ := List.pairwise_cons.1 dj
    unfold fnd
    rw [List.find?_cons]
    rcases List.mem_cons.1 hr with e | e
    · subst e; rw [he]
    · have : eqP s.p p = false := by
        cases hq : eqP s.p p with
        | false => rfl
        | true =>
          have := d1 r e
          rw [eqP_trans hq (by rw [eqP_comm]; exact he)] at this
          cases this
      rw [this]
      exact ih d2 e
theorem mIP_rng (R : List RV) (V : Int) (x : Nat → Nat) : mIP R V x = (List.range (cnP V x)).filterMap (fun i => fnd R (elP V x i)) := by
  unfold mIP
  rw [List.filterMap_map]
  rfl
theorem mem_mIP {R : List RV} {V : Int} {x : Nat → Nat} {r : RV} : r ∈ mIP R V x ↔ ∃ i, i < cnP V x ∧ fnd R (elP V x i) = some r := by
  rw [mIP_rng, List.mem_filterMap]
  constructor
  · rintro ⟨i, h1, h2⟩; exact ⟨i, List.mem_range.1 h1, h2⟩
  · rintro ⟨i, h1, h2⟩; exact ⟨i, List.mem_range.2 h1, h2⟩
theorem mIP_con {R : List RV} {V : Int} {x : Nat → Nat} {r : RV} (hv : ∀ r ∈ R, vpE r.p = 0) (h : r ∈ mIP R V x) : r ∈ R ∧ conB r.p V x = true := by
  obtain ⟨i, hi, hf⟩ := mem_mIP.1 h
  obtain ⟨h1, h2⟩ := fnd_some hf
  exact ⟨h1, (con_iff V x (hv r h1)).2 ⟨i, hi, h2⟩⟩
theorem con_mIP {R : List RV} {V : Int} {x : Nat → Nat} {r : RV} (hv : ∀ r ∈ R, vpE r.p = 0) (dj : R.Pairwise (fun a b => eqP a.p b.p = false)) (hr : r ∈ R) (h : conB r.p V x = true) : r ∈ mIP R V x := by
  obtain ⟨i, hi, he⟩ := (con_iff V x (hv r hr)).1 h
  exact mem_mIP.2 ⟨i, hi, fnd_mem dj hr he⟩
theorem eqP_n {p q : PV} (h : eqP p q = true) : p.n = q.n := by
  unfold eqP at h
  simp only [Bool.and_eq_true, beq_iff_eq] at h
  exact h.2
theorem cnP_bit {V : Int} {x : Nat → Nat} {i : Nat} (h : i < cnP V x) : i ≤ bitV V := by
  unfold cnP at h
  split at h <;> omega
theorem mIP_sorted (R : List RV) (V : Int) (x : Nat → Nat) : (mIP R V x).Pairwise (fun a b => b.p.n < a.p.n) := by
  rw [mIP_rng, List.pairwise_filterMap]
  refine List.Pairwise.imp_of_mem ?_ (List.pairwise_lt_range (n := cnP V x))
  intro i j hi hj hlt b hb c hc
  have h1 := eqP_n (fnd_some hb).2
  have h2 := eqP_n (fnd_some hc).2
  have h3 := cnP_bit (List.mem_range.1 hj)
  have e1 : b.p.n = ((bitV V - i : Nat) : Int) := h1
  have e2 : c.p.n = ((bitV V - j : Nat) : Int) := h2
  omega
theorem fIP_head (R : List RV) (V : Int) (x : Nat → Nat) : fIP R V x = (mIP R V x).head? := by
  unfold fIP mIP
  rw [List.head?_filterMap]
theorem cnt_or {α : Type} (l : List α) (p q : α → Bool) (h : ∀ a ∈ l, ¬ (p a = true ∧ q a = true)) : l.countP (fun a => p a || q a) = l.countP p + l.countP q := by
  induction l with
  | nil => rfl
  | cons a l ih =>
    have h1 := ih (fun b hb => h b (List.mem_cons_of_mem _ hb))
    have h2 := h a (by simp)
    rw [List.countP_cons, List.countP_cons, List.countP_cons, h1]
    cases hp : p a <;> cases hq : q a <;> simp_all <;> omega
theorem cnt_none (N : Nat) (p : Nat → Bool) (h : ∀ i, i < N → p i = false) : (List.range N).countP p = 0 := by
  rw [List.countP_eq_zero]
  intro i hi
  rw [h i (List.mem_range.1 hi)]
  decide
theorem cnt_one (N : Nat) (p : Nat → Bool) (i0 : Nat) (h0 : i0 < N) (h : ∀ i, i < N → (p i = true ↔ i = i0)) : (List.range N).countP p = 1 := by
  induction N with
  | zero => omega
  | succ N ih =>
    rw [List.range_succ, List.countP_append, List.countP_singleton]
    by_cases e : i0 = N
    · have z := cnt_none N p (fun i hi => by
        cases hq : p i with
        | false => rfl
        | true => have := (h i (by omega)).1 hq; omega)
      rw [z, if_pos ((h N (by omega)).2 e.symm)]
    · have := ih (by omega) (fun i hi => h i (by omega))
      rw [this, if_neg (fun hq => e ((h N (by omega)).1 hq).symm)]
theorem mIP_len {R : List RV} {V : Int} {x : Nat → Nat} (hv : ∀ r ∈ R, vpE r.p = 0) (dj : R.Pairwise (fun a b => eqP a.p b.p = false)) : (mIP R V x).length = R.countP (fun r => conB r.p V x) := by
  rw [mIP_rng, List.length_filterMap_eq_countP]
  induction R with
  | nil => simp [fnd]
  | cons r R ih =>
    obtain ⟨d1, d2⟩ := List.pairwise_cons.1 dj
    have ih' := ih (fun s hs => hv s (List.mem_cons_of_mem _ hs)) d2
    have hf : ∀ i, (fnd (r :: R) (elP V x i)).isSome = (eqP r.p (elP V x i) || (fnd R (elP V x i)).isSome) := by
      intro i
      unfold fnd
      rw [List.find?_cons]
      cases eqP r.p (elP V x i) <;> simp
    rw [show (fun i => (fnd (r :: R) (elP V x i)).isSome) = (fun i => eqP r.p (elP V x i) || (fnd R (elP V x i)).isSome) from funext hf, cnt_or _ _ _ (fun i _ hh => by
      obtain ⟨h1, h2⟩ := hh
      obtain ⟨s, hs⟩ := Option.isSome_iff_exists.1 h2
      obtain ⟨hs1, hs2⟩ := fnd_some hs
      have := d1 s hs1
      rw [eqP_trans h1 (by rw [eqP_comm]; exact hs2)] at this
      cases this), ih', List.countP_cons, Nat.add_comm]
    congr 1
    by_cases hc : conB r.p V x = true
    · rw [if_pos hc]
      obtain ⟨i0, h0, he⟩ := (con_iff V x (hv r (by simp))).1 hc
      refine cnt_one _ _ i0 h0 (fun i hi => ⟨fun h => ?_, fun h => by rw [h]; exact he⟩)
      have e1 : r.p.n = ((bitV V - i : Nat) : Int) := eqP_n h
      have e2 : r.p.n = ((bitV V - i0 : Nat) : Int) := eqP_n he
      have := cnP_bit hi
      have := cnP_bit h0
      omega
    · rw [if_neg hc]
      refine cnt_none _ _ (fun i hi => ?_)
      cases hq : eqP r.p (elP V x i) with
      | false => rfl
      | true => exact absurd ((con_iff V x (hv r (by simp))).2 ⟨i, hi, hq⟩) hc
theorem chk_vp {r : RV} (h : chkR r = 0) : vpE r.p = 0 := by
  unfold chkR at h
  split at h
  · assumption
  · cases h
/-- what a look at one address must find -/
theorem lo_hit {R : List RV} {V : Int} {x : Nat → Nat} (hv : ∀ r ∈ R, vpE r.p = 0) (dj : R.Pairwise (fun a b => eqP a.p b.p = false)) {s : RV} (hs : s ∈ R) (hc : conB s.p V x = true) : (fIP R V x).isSome = true ∧ s.p.n ≤ ((fIP R V x).getD rz).p.n := by
  have hm := con_mIP hv dj hs hc
  have hsrt := mIP_sorted R V x
  rw [fIP_head]
  cases hML : mIP R V x with
  | nil => rw [hML] at hm; cases hm
  | cons r l =>
    rw [hML] at hm hsrt
    refine ⟨rfl, ?_⟩
    show s.p.n ≤ r.p.n
    rcases List.mem_cons.1 hm with e | e
    · rw [e]; exact Int.le_refl _
    · have := (List.pairwise_cons.1 hsrt).1 s e
      omega
theorem lo_found {R : List RV} {V : Int} {x : Nat → Nat} (hv : ∀ r ∈ R, vpE r.p = 0) (dj : R.Pairwise (fun a b => eqP a.p b.p = false)) : R.any (fun s => conB s.p V x && eqR s ((fIP R V x).getD rz)) = (fIP R V x).isSome := by
  cases hf : fIP R V x with
  | none =>
    show R.any _ = false
    rw [List.any_eq_false]
    intro s hs h
    simp only [Bool.and_eq_true] at h
    have := (lo_hit hv dj hs h.1).1
    rw [hf] at this
    cases this
  | some r =>
    show R.any (fun s => conB s.p V x && eqR s r) = true
    rw [List.any_eq_true]
    have hm : r ∈ mIP R V x := by rw [fIP_head] at hf; exact List.mem_of_mem_head? hf
    obtain ⟨h1, h2⟩ := mIP_con hv hm
    exact ⟨r, h1, by rw [h2, eqR_refl]; rfl⟩
theorem lo_first {R : List RV} {V : Int} {x : Nat → Nat} {r : RV} (h : (mIP R V x)[0]? = some r) : (fIP R V x).getD rz = r := by
  rw [fIP_head, List.head?_eq_getElem?, h]
  rfl
theorem lo_step {R : List RV} {V : Int} {x : Nat → Nat} {k : Nat} {a b : RV} (hv : ∀ r ∈ R, vpE r.p = 0) (ha : (mIP R V x)[k]? = some a) (hb : (mIP R V x)[k + 1]? = some b) : b.p.n < a.p.n ∧ conB b.p V x = true := by
  refine ⟨?_, (mIP_con hv (List.mem_of_getElem? hb)).2⟩
  obtain ⟨h1, rfl⟩ := List.getElem?_eq_some_iff.1 ha
  obtain ⟨h2, rfl⟩ := List.getElem?_eq_some_iff.1 hb
  exact List.pairwise_iff_getElem.1 (mIP_sorted R V x) k (k + 1) h1 h2 (by omega)
end Go.Proofs.YtdjbfhllialinaaDoor
