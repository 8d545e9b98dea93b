/-
  Layer 15, Tick, in lists: what becomes of the entries that are due, one after the other.
-/
import Derived.Test.YtnpipngiehohgaaNgOdr
namespace Go.Proofs.Ytnpipngiehohgaa
open Go.RowKit Go.Maps

/-- a due entry: asked again, or gone -/
def tkE (c : CF) (e : EV) : Option EV := if e.n.tr < c.tr then some ⟨{ e.n with ag := 0, tr := e.n.tr + 1 }, e.P, e.lv⟩ else none
def inK (Ks : List KV) (e : EV) : Bool := Ks.any (fun k => eqP k e.n.k)
def tkF (c : CF) (Ks : List KV) (e : EV) : Option EV := if inK Ks e then tkE c e else some e
def tkL (c : CF) (E : List EV) (Ks : List KV) : List EV := E.filterMap (tkF c Ks)
def askOf (c : CF) (E : List EV) (k : KV) : Option AK := (fE E k).bind (fun e => if e.n.tr < c.tr then some ⟨k, e.n.m, e.n.tr + 1⟩ else none)
def lostOf (c : CF) (E : List EV) (k : KV) : List Int := ((fE E k).map (fun e => if e.n.tr < c.tr then [] else e.n.ln)).getD []
def asksL (c : CF) (E : List EV) (Ks : List KV) : List AK := Ks.filterMap (askOf c E)
def lostL (c : CF) (E : List EV) (Ks : List KV) : List Int := Ks.flatMap (lostOf c E)
theorem tkL_nil (c : CF) (E : List EV) : tkL c E [] = E := by
  unfold tkL
  have : tkF c [] = some := by funext e; rfl
  rw [this, List.filterMap_some]
theorem inK_snoc (Ks : List KV) (k : KV) (e : EV) : inK (Ks ++ [k]) e = (inK Ks e || eqP k e.n.k) := by
  unfold inK
  simp [List.any_append]
theorem tkF_k {c : CF} {Ks : List KV} {e y : EV} (h : tkF c Ks e = some y) : y.n.k = e.n.k ∧ y.P = e.P ∧ y.lv = e.lv ∧ y.n.ln = e.n.ln := by
  unfold tkF tkE at h
  split at h
  · split at h
    · cases h; exact ⟨rfl, rfl, rfl, rfl⟩
    · cases h
  · cases h; exact ⟨rfl, rfl, rfl, rfl⟩
theorem tkL_mem {c : CF} {E : List EV} {Ks : List KV} {y : EV} (h : y ∈ tkL c E Ks) : ∃ e ∈ E, y.n.k = e.n.k ∧ y.P = e.P ∧ y.lv = e.lv ∧ y.n.ln = e.n.ln := by
  obtain ⟨e, he, hy⟩ := List.mem_filterMap.1 h
  exact ⟨e, he, tkF_k hy⟩
theorem tkL_dj {c : CF} {E : List EV} {Ks : List KV} (d : Dj E) : Dj (tkL c E Ks) := by
  unfold tkL
  show List.Pairwise _ _
  rw [List.pairwise_filterMap]
  refine List.Pairwise.imp (fun {a b} h => ?_) d
  intro x hx y hy
  rw [(tkF_k hx).1, (tkF_k hy).1]
  exact h
theorem tkL_fE {c : CF} {E : List EV} {Ks : List KV} {k : KV} {e : EV} (d : Dj E) (hf : fE E k = some e) (hn : inK Ks e = false) : fE (tkL c E Ks) k = some e := by
  obtain ⟨he, hk⟩ := fE_some hf
  refine fE_mem (tkL_dj d) ?_ hk
  unfold tkL
  rw [List.mem_filterMap]
  exact ⟨e, he, by unfold tkF; rw [hn]; rfl⟩
theorem filterMap_congr' {α β : Type} {f g : α → Option β} : ∀ {l : List α}, (∀ a ∈ l, f a = g a) → l.filterMap f = l.filterMap g
  | [], _ => rfl
  | a :: l, h => by
    rw [List.filterMap_cons, List.filterMap_cons, h a (by simp), filterMap_congr' (l := l) (fun b hb => h b (List.mem_cons_of_mem _ hb))]
theorem tkL_again {c : CF} {E : List EV} {Ks : List KV} {k : KV} {e : EV} (d : Dj E) (hf : fE E k = some e) (hn : inK Ks e = false) (ht : e.n.tr < c.tr) : updE (tkL c E Ks) k ⟨{ e.n with ag := 0, tr := e.n.tr + 1 }, e.P, e.lv⟩ = tkL c E (Ks ++ [k]) := by
  obtain ⟨he, hk⟩ := fE_some hf
  unfold updE tkL
  rw [List.map_filterMap]
  refine filterMap_congr' (fun x hx => ?_)
  by_cases h : eqP x.n.k k = true
  · have h1 := fE_mem d hx h
    rw [hf] at h1
    have e1 : e = x := Option.some.inj h1
    subst e1
    have h2 : tkF c Ks e = some e := by unfold tkF; rw [hn]; rfl
    have h3 : tkF c (Ks ++ [k]) e = tkE c e := by
      unfold tkF
      rw [inK_snoc, eqP_comm k, h]
      simp
    rw [h2, h3]
    unfold tkE
    rw [if_pos ht]
    simp [h]
  · have h' : eqP x.n.k k = false := by simpa using h
    have h3 : tkF c (Ks ++ [k]) x = tkF c Ks x := by
      unfold tkF
      rw [inK_snoc, eqP_comm k, h']
      simp
    rw [h3]
    cases hy : tkF c Ks x with
    | none => rfl
    | some y =>
      have := (tkF_k hy).1
      simp [this, h']
theorem tkL_gone {c : CF} {E : List EV} {Ks : List KV} {k : KV} {e : EV} (d : Dj E) (hf : fE E k = some e) (hn : inK Ks e = false) (ht : ¬ e.n.tr < c.tr) : delE (tkL c E Ks) k = tkL c E (Ks ++ [k]) := by
  obtain ⟨he, hk⟩ := fE_some hf
  unfold delE tkL
  rw [List.filter_filterMap]
  refine filterMap_congr' (fun x hx => ?_)
  by_cases h : eqP x.n.k k = true
  · have h1 := fE_mem d hx h
    rw [hf] at h1
    have e1 : e = x := Option.some.inj h1
    subst e1
    have h2 : tkF c Ks e = some e := by unfold tkF; rw [hn]; rfl
    have h3 : tkF c (Ks ++ [k]) e = tkE c e := by
      unfold tkF
      rw [inK_snoc, eqP_comm k, h]
      simp
    rw [h2, h3]
    unfold tkE
    rw [if_neg ht]
    simp [Option.filter, h]
  · have h' : eqP x.n.k k = false := by simpa using h
    have h3 : tkF c (Ks ++ [k]) x = tkF c Ks x := by
      unfold tkF
      rw [inK_snoc, eqP_comm k, h']
      simp
    rw [h3]
    cases hy : tkF c Ks x with
    | none => rfl
    | some y =>
      have := (tkF_k hy).1
      simp [Option.filter, this, h']
theorem asks_snoc (c : CF) (E : List EV) (Ks : List KV) (k : KV) : asksL c E (Ks ++ [k]) = asksL c E Ks ++ (askOf c E k).toList := by
  unfold asksL
  rw [List.filterMap_append]
  cases h : askOf c E k <;> simp [h]
theorem lost_snoc (c : CF) (E : List EV) (Ks : List KV) (k : KV) : lostL c E (Ks ++ [k]) = lostL c E Ks ++ lostOf c E k := by
  unfold lostL
  rw [List.flatMap_append]
  simp
theorem tkL_cb {c : CF} {t M : Nat} {E : List EV} {Ks : List KV} : ∀ q, CB t M (tkL c E Ks) q → CB t M E q := by
  rintro q (h | h | ⟨a, ha, h⟩)
  · exact .inl h
  · exact .inr (.inl h)
  · obtain ⟨e, he, _, h2, h3, _⟩ := tkL_mem ha
    exact .inr (.inr ⟨e, he, by rw [← h2, ← h3]; exact h⟩)
theorem ag1_cb {c : CF} {t M : Nat} {E : List EV} : ∀ q, CB t M (E.map (ag1 c)) q → CB t M E q := by
  rintro q (h | h | ⟨a, ha, h⟩)
  · exact .inl h
  · exact .inr (.inl h)
  · obtain ⟨e, he, rfl⟩ := List.mem_map.1 ha
    exact .inr (.inr ⟨e, he, h⟩)
/-- what a tick leaves of an entry -/
def tickE (c : CF) (e : EV) : Option EV := if dueB c e.n then tkE c (ag1 c e) else some (ag1 c e)
theorem due_inK {c : CF} {E : List EV} {K : List KV} (d : Dj E) (hp : K.Perm (dueL c E)) {e : EV} (he : e ∈ E) : inK K (ag1 c e) = dueB c e.n := by
  rw [Bool.eq_iff_iff]
  unfold inK
  rw [List.any_eq_true]
  constructor
  · rintro ⟨k, hk, hq⟩
    have hk' := hp.mem_iff.1 hk
    unfold dueL at hk'
    obtain ⟨s, hs, rfl⟩ := List.mem_map.1 hk'
    obtain ⟨hs1, hs2⟩ := List.mem_filter.1 hs
    have hq' : eqP s.n.k e.n.k = true := by
      have : (ag1 c e).n.k = e.n.k := oldN_k c e.n
      rw [this] at hq; exact hq
    have h1 := fE_mem d hs1 hq'
    have h2 := fE_mem d he (eqP_refl e.n.k)
    rw [h1] at h2
    rw [← Option.some.inj h2]
    exact hs2
  · intro h
    refine ⟨e.n.k, hp.mem_iff.2 ?_, ?_⟩
    · unfold dueL
      exact List.mem_map.2 ⟨e, List.mem_filter.2 ⟨he, h⟩, rfl⟩
    · have : (ag1 c e).n.k = e.n.k := oldN_k c e.n
      rw [this]; exact eqP_refl _
theorem tkL_end {c : CF} {E : List EV} {K : List KV} (d : Dj E) (hp : K.Perm (dueL c E)) : tkL c (E.map (ag1 c)) K = E.filterMap (tickE c) := by
  unfold tkL
  rw [List.filterMap_map]
  refine filterMap_congr' (fun e he => ?_)
  show tkF c K (ag1 c e) = tickE c e
  unfold tkF tickE
  rw [due_inK d hp he]
theorem dueL_dj {c : CF} {E : List EV} (d : Dj E) : (dueL c E).Pairwise (fun a b => eqP a b = false) := by
  unfold dueL
  rw [List.pairwise_map]
  exact d.sublist List.filter_sublist
theorem ag1_dj {c : CF} {E : List EV} (d : Dj E) : Dj (E.map (ag1 c)) := by
  show List.Pairwise _ _
  rw [List.pairwise_map]
  refine List.Pairwise.imp (fun {a b} h => ?_) d
  rw [show (ag1 c a).n.k = a.n.k from oldN_k c a.n, show (ag1 c b).n.k = b.n.k from oldN_k c b.n]
  exact h
theorem due_fE {c : CF} {E : List EV} {K : List KV} (d : Dj E) (hp : K.Perm (dueL c E)) {k : KV} (hk : k ∈ K) : ∃ e ∈ E, k = e.n.k ∧ dueB c e.n = true ∧ fE (E.map (ag1 c)) k = some (ag1 c e) := by
  have hk' := hp.mem_iff.1 hk
  unfold dueL at hk'
  obtain ⟨s, hs, rfl⟩ := List.mem_map.1 hk'
  obtain ⟨hs1, hs2⟩ := List.mem_filter.1 hs
  exact ⟨s, hs1, rfl, hs2, fE_mem (ag1_dj d) (List.mem_map_of_mem hs1) (by rw [show (ag1 c s).n.k = s.n.k from oldN_k c s.n]; exact eqP_refl _)⟩
theorem K_take {K : List KV} (dj : K.Pairwise (fun a b => eqP a b = false)) {i : Nat} {k : KV} (hk : K[i]? = some k) {e : EV} (he : e.n.k = k) : inK (K.take i) e = false := by
  unfold inK
  rw [List.any_eq_false]
  intro a ha
  obtain ⟨j, hj⟩ := List.mem_iff_getElem?.1 ha
  have hj' : j < i := by
    have := (List.getElem?_eq_some_iff.1 hj).1
    simp at this; omega
  rw [List.getElem?_take, if_pos hj'] at hj
  have h1 := (List.pairwise_iff_getElem.1 dj) j i (List.getElem?_eq_some_iff.1 hj).1 (List.getElem?_eq_some_iff.1 hk).1 hj'
  rw [(List.getElem?_eq_some_iff.1 hj).2, (List.getElem?_eq_some_iff.1 hk).2] at h1
  rw [he, h1]
  decide
end Go.Proofs.Ytnpipngiehohgaa
