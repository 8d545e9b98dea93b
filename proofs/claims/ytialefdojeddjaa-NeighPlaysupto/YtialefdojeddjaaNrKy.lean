/-
  Layer 15: what else holds of every cache's entries: a known one that is not being asked has no tries, an asked one no MAC.
-/
/-
  Layer 15: a cache's entries and the reference's list of them, in numbers.
-/
/-
  Layer 15: a cache's entries and the reference's list of them: one gone; a tick; which gives way.
-/
/-
  Layer 15: the entry that gives way is the same one; what a tick asks and loses is told in the list's order.
-/
/-
  Layer 15: what a tick asks and loses, off the list in its order.
-/
/-
  Layer 15's reference: a cache of it under way; what Want and Learn of it do, against what the program's do.
-/
/-
  Layer 15's reference: what Want and Learn of it lean on.
-/
/-
  Layer 15's reference: what Learn of it leans on.
-/
/-
  Layer 15's reference: what Tick of it leans on.
-/
import Derived.Test.YtialefdojeddjaaNgInv
import Derived.Test.YtialefdojeddjaaNrFn7
import Derived.Test.YtialefdojeddjaaNgEq
import Derived.Deep.CutBlock
namespace Go.Proofs.Ytialefdojeddjaa
open Go.RowKit Go.Maps

structure N2 (n : EN) : Prop where
  t0 : n.st = 2 ∨ n.st = 3 → n.tr = 0
  m0 : n.st = 1 → n.m = mz
def E2 (E : List EV) : Prop := ∀ e ∈ E, N2 e.n
theorem E2.nil : E2 [] := fun e he => by cases he
theorem E2.upd {E : List EV} {k : KV} {e' : EV} (h : E2 E) (he : N2 e'.n) : E2 (updE E k e') := fun a ha => by
  rcases upd_mem ha with rfl | ⟨h1, _⟩
  · exact he
  · exact h a h1
theorem AddR.n2 {c : CF} {E E' : List EV} {e : EV} {er : Int} (h : AddR c E e er E') (hE : E2 E) (he : N2 e.n) : E2 E' := by
  rcases h with ⟨_, _, rfl⟩ | ⟨_, _, _, rfl⟩ | ⟨_, s, _, _, rfl⟩
  · intro a ha
    rcases List.mem_append.1 ha with ha | ha
    · exact hE a ha
    · simp only [List.mem_singleton] at ha; subst ha; exact he
  · exact hE
  · intro a ha
    rcases List.mem_append.1 ha with ha | ha
    · exact hE a (List.mem_filter.1 ha).1
    · simp only [List.mem_singleton] at ha; subst ha; exact he
theorem WantR.n2 {c : CF} {E E' : List EV} {k : KV} {item : Int} {m : Nat → Nat} {oc er : Int} (hE : E2 E) (h : WantR c E k item E' m oc er) : E2 E' := by
  rcases h with ⟨_, rfl, _⟩ | ⟨_, ⟨_, e, he, ha, _⟩ | ⟨e, hf, h | h | h | h⟩⟩
  · exact hE
  · refine ha.n2 hE ?_
    rw [he]
    exact ⟨fun h => (by rcases h with h | h <;> cases h), fun _ => rfl⟩
  · obtain ⟨_, _, rfl, _⟩ := h
    exact hE
  · obtain ⟨hs, _, ⟨lv', rfl⟩, _⟩ := h
    have hn := hE e (fE_some hf).1
    exact hE.upd ⟨hn.t0, hn.m0⟩
  · obtain ⟨_, rfl, _⟩ := h
    exact hE.upd ⟨fun h => (by rcases h with h | h <;> cases h), fun h => (by cases h)⟩
  · obtain ⟨_, _, rfl, _⟩ := h
    exact hE
theorem LearnR.n2 {c : CF} {E E' : List EV} {k : KV} {m : Nat → Nat} {how : Int} {v : Value} {l : List Int} {er : Int} (hE : E2 E) (h : LearnR c E k m how E' v l er) : E2 E' := by
  rcases h with ⟨_, rfl, _⟩ | ⟨_, ⟨_, _, ⟨e, he, ha⟩, _⟩ | ⟨_, _, rfl, _⟩ | ⟨e, hf, h | h | h⟩⟩
  · exact hE
  · refine ha.n2 hE ?_
    rw [he]
    exact ⟨fun _ => rfl, fun h => (by cases h)⟩
  · exact hE
  · obtain ⟨_, rfl, _⟩ := h
    exact hE.upd ⟨fun _ => rfl, fun h => (by cases h)⟩
  · obtain ⟨_, _, rfl, _⟩ := h
    exact hE.upd ⟨fun _ => rfl, fun h => (by cases h)⟩
  · obtain ⟨_, _, rfl, _⟩ := h
    exact hE
theorem oldN_n2 {c : CF} {n : EN} (h : N2 n) : N2 (oldN c n) := by
  unfold oldN
  split
  · exact ⟨fun _ => rfl, fun h => (by cases h)⟩
  · exact ⟨h.t0, h.m0⟩
theorem tickE_n2 {c : CF} {e y : EV} (h : N2 e.n) (hy : tickE c e = some y) : N2 y.n := by
  unfold tickE at hy
  by_cases hd : dueB c e.n = true
  · rw [if_pos hd] at hy
    unfold dueB at hd
    simp only [Bool.and_eq_true, Bool.or_eq_true, beq_iff_eq] at hd
    have ho : oldN c e.n = { e.n with ag := agI e.n } := by
      unfold oldN
      rw [if_neg (by rcases hd.1 with q | q <;> omega)]
    unfold tkE ag1 at hy
    rw [ho] at hy
    split at hy
    · cases hy
      refine ⟨fun q => ?_, h.m0⟩
      have q' : e.n.st = 2 ∨ e.n.st = 3 := q
      rcases hd.1 with p | p <;> omega
    · cases hy
  · rw [if_neg hd] at hy
    cases hy
    exact oldN_n2 h
theorem tick_n2 {c : CF} {E : List EV} (hE : E2 E) : E2 (E.filterMap (tickE c)) := fun a ha => by
  obtain ⟨e, he, hy⟩ := List.mem_filterMap.1 ha
  exact tickE_n2 (hE e he) hy
/-- under it the program's and the reference's older say the same -/
theorem oldN_same {c : CF} {n : EN} (h : N2 n) : oldN c n = (if n.st = 2 ∧ agI n = c.fr then { n with st := 3, ag := 0 } else { n with ag := agI n }) := by
  unfold oldN
  by_cases h1 : n.st = 2 ∧ agI n = c.fr
  · rw [if_pos h1, if_pos h1, h.t0 (.inl h1.1)]
  · rw [if_neg h1, if_neg h1]
end Go.Proofs.Ytialefdojeddjaa
namespace Go.Proofs.Ytialefdojeddjaa
open Go.RowKit Go.Maps

/-- N is E's numbers, in order -/
def Rep (E : List EV) (N : List EN) : Prop := N.Perm (E.map (fun e => e.n)) ∧ N.Pairwise (fun a b => lt3 a.k b.k)
theorem Rep.nil : Rep [] [] := ⟨List.Perm.refl _, List.Pairwise.nil⟩
theorem Srt.rep {E S : List EV} (h : Srt E S) : Rep E (S.map (fun e => e.n)) := ⟨h.1.map _, List.pairwise_map.2 h.2⟩
theorem sortedN_eq : ∀ (xs ys : List EN), xs.Pairwise (fun a b => lt3 a.k b.k) → ys.Pairwise (fun a b => lt3 a.k b.k) → (∀ s, s ∈ xs ↔ s ∈ ys) → xs = ys
  | [], [], _, _, _ => rfl
  | [], b :: _, _, _, h => by have := (h b).2 (by simp); cases this
  | a :: _, [], _, _, h => by have := (h a).1 (by simp); cases this
  | a :: xs, b :: ys, h1, h2, h => by
    obtain ⟨a1, a2⟩ := List.pairwise_cons.1 h1
    obtain ⟨b1, b2⟩ := List.pairwise_cons.1 h2
    have hab : a = b := by
      rcases List.mem_cons.1 ((h a).1 (by simp)) with e | e
      · exact e
      · rcases List.mem_cons.1 ((h b).2 (by simp)) with e' | e'
        · exact e'.symm
        · exact absurd (lt3_trans (a1 b e') (b1 a e)) (lt3_irr a.k)
    subst hab
    rw [sortedN_eq xs ys a2 b2 (fun s => ?_)]
    constructor
    · intro hs
      rcases List.mem_cons.1 ((h s).1 (List.mem_cons_of_mem _ hs)) with e | e
      · rw [e] at hs; exact absurd (a1 a hs) (lt3_irr a.k)
      · exact e
    · intro hs
      rcases List.mem_cons.1 ((h s).2 (List.mem_cons_of_mem _ hs)) with e | e
      · rw [e] at hs; exact absurd (b1 a hs) (lt3_irr a.k)
      · exact e
theorem Rep.same {E : List EV} {N N' : List EN} (h : Rep E N) (h' : Rep E N') : N = N' := sortedN_eq N N' h.2 h'.2 (fun _ => h.1.mem_iff.trans h'.1.mem_iff.symm)
theorem Rep.mem {E : List EV} {N : List EN} (h : Rep E N) {a : EN} : a ∈ N ↔ ∃ e ∈ E, e.n = a := by rw [h.1.mem_iff, List.mem_map]
theorem Rep.len {E : List EV} {N : List EN} (h : Rep E N) : N.length = E.length := by rw [h.1.length_eq, List.length_map]
theorem Rep.fno {E : List EV} {N : List EN} (h : Rep E N) {k : KV} : fE E k = none ↔ ∀ a ∈ N, eqP a.k k = false := by
  unfold fE
  rw [List.find?_eq_none]
  constructor
  · intro hn a ha
    obtain ⟨e, he, rfl⟩ := h.mem.1 ha
    simpa using hn e he
  · intro hn e he
    have := hn e.n (h.mem.2 ⟨e, he, rfl⟩)
    simpa using this
theorem Rep.fso {E : List EV} {N : List EN} (h : Rep E N) {k : KV} {e : EV} (hf : fE E k = some e) : ∃ i : Nat, N[i]? = some e.n ∧ eqP e.n.k k = true := by
  obtain ⟨h1, h2⟩ := fE_some hf
  obtain ⟨i, hi, e2⟩ := List.getElem_of_mem (h.mem.2 ⟨e, h1, rfl⟩)
  exact ⟨i, by rw [List.getElem?_eq_getElem hi, e2], h2⟩
theorem pw_k {N : List EN} : N.Pairwise (fun a b => lt3 a.k b.k) ↔ (N.map (fun a => a.k)).Pairwise lt3 := List.pairwise_map.symm
/-- one entry turned -/
theorem Rep.upd {E : List EV} {N : List EN} (h : Rep E N) {k : KV} {i : Nat} {a : EN} {e' : EV} (hi : N[i]? = .some a) (hk : eqP a.k k = true) (hk' : e'.n.k = a.k) : Rep (updE E k e') (N.set i e'.n) := by
  obtain ⟨hlt, ha⟩ := List.getElem?_eq_some_iff.1 hi
  have hset : N.set i e'.n = N.map (fun b => if eqP b.k k then e'.n else b) := by
    apply List.ext_getElem
    · simp
    · intro j h1 h2
      rw [List.getElem_map, List.getElem_set]
      have hj : j < N.length := by simpa using h1
      by_cases hij : i = j
      · subst hij
        rw [if_pos rfl, ha, if_pos hk]
      · rw [if_neg hij, if_neg]
        intro he
        have h3 : eqP N[j].k a.k = true := eqP_trans he (by rw [eqP_comm]; exact hk)
        rcases Nat.lt_or_gt_of_ne hij with hl | hl
        · have h4 := List.pairwise_iff_getElem.1 h.2 i j hlt hj hl
          rw [ha] at h4
          have h5 := lt3_ne h4
          rw [eqP_comm, h3] at h5
          cases h5
        · have h4 := List.pairwise_iff_getElem.1 h.2 j i hj hlt hl
          rw [ha] at h4
          have h5 := lt3_ne h4
          rw [h3] at h5
          cases h5
  refine ⟨?_, ?_⟩
  · rw [hset]
    have e1 : (updE E k e').map (fun e => e.n) = (E.map (fun e => e.n)).map (fun b => if eqP b.k k then e'.n else b) := by
      unfold updE
      rw [List.map_map, List.map_map]
      apply List.map_congr_left
      intro e _
      show (if eqP e.n.k k = true then e' else e).n = if eqP e.n.k k = true then e'.n else e.n
      split <;> rfl
    rw [e1]
    exact h.1.map _
  · rw [pw_k, List.map_set, hk', ← ha, show (N.map (fun a => a.k)).set i N[i].k = N.map (fun a => a.k) from by
      have : N[i].k = (N.map (fun a => a.k))[i]'(by simpa using hlt) := by rw [List.getElem_map]
      rw [this, List.set_getElem_self]]
    exact pw_k.1 h.2
/-- a new entry -/
theorem Rep.add {E : List EV} {N : List EN} (h : Rep E N) {e : EV} {p : Nat} (hp : p ≤ N.length) (hw : ∀ a ∈ N, a.k.Wf) (he : e.n.k.Wf) (hn : ∀ a ∈ N, eqP a.k e.n.k = false) (h1 : ∀ j a, j < p → N[j]? = .some a → lt3 a.k e.n.k) (h2 : ∀ a, N[p]? = .some a → ¬ lt3 a.k e.n.k) : Rep (E ++ [e]) (N.take p ++ e.n :: N.drop p) := by
  refine ⟨?_, ?_⟩
  · have e1 : (N.take p ++ e.n :: N.drop p).Perm (e.n :: N) := by
      have := List.perm_middle (a := e.n) (l₁ := N.take p) (l₂ := N.drop p)
      rwa [List.take_append_drop] at this
    refine e1.trans ?_
    rw [List.map_append]
    exact (List.Perm.cons _ h.1).trans (List.perm_append_singleton _ _).symm
  · rw [List.pairwise_append]
    refine ⟨h.2.sublist (List.take_sublist _ _), ?_, ?_⟩
    · rw [List.pairwise_cons]
      refine ⟨fun b hb => ?_, h.2.sublist (List.drop_sublist _ _)⟩
      have hpl : p < N.length := by
        refine Decidable.byContradiction (fun hc => ?_)
        rw [List.drop_of_length_le (by omega)] at hb
        cases hb
      have hx : lt3 e.n.k N[p].k := by
        have ha : N[p] ∈ N := List.getElem_mem hpl
        rcases tri N[p].k e.n.k (hw _ ha) he with t | t | t
        · exact absurd t (h2 _ (List.getElem?_eq_getElem hpl))
        · exact t
        · rw [hn _ ha] at t; cases t
      rw [List.drop_eq_getElem_cons hpl] at hb
      rcases List.mem_cons.1 hb with rfl | hb
      · exact hx
      · have hd : (N.drop p).Pairwise (fun a b => lt3 a.k b.k) := h.2.sublist (List.drop_sublist _ _)
        rw [List.drop_eq_getElem_cons hpl, List.pairwise_cons] at hd
        exact lt3_trans hx (hd.1 b hb)
    · intro a ha b hb
      obtain ⟨j, hj, rfl⟩ := List.getElem_of_mem ha
      have hj' : j < p := by rw [List.length_take] at hj; omega
      have hjN : j < N.length := by omega
      have haj : lt3 N[j].k e.n.k := h1 j _ hj' (List.getElem?_eq_getElem hjN)
      rw [List.getElem_take]
      rcases List.mem_cons.1 hb with rfl | hb
      · exact haj
      · obtain ⟨i, hi, rfl⟩ := List.getElem_of_mem hb
        rw [List.getElem_drop]
        exact List.pairwise_iff_getElem.1 h.2 j (p + i) hjN (by rw [List.length_drop] at hi; omega) (by omega)
/-- how many items wait -/
theorem Rep.wait {E : List EV} {N : List EN} (h : Rep E N) : (N.map (fun a => a.ln.length)).foldr (· + ·) 0 = waitN E := by
  unfold waitN
  have h1 := h.1.map (fun a : EN => a.ln.length)
  rw [List.map_map] at h1
  have key : ∀ {l m : List Nat}, l.Perm m → l.foldr (· + ·) 0 = m.foldr (· + ·) 0 := fun hp => by
    induction hp with
    | nil => rfl
    | cons x _ ih => simp only [List.foldr_cons, ih]
    | swap x y l => simp only [List.foldr_cons]; omega
    | trans _ _ ih1 ih2 => exact ih1.trans ih2
  exact key h1
end Go.Proofs.Ytialefdojeddjaa
namespace Go.Proofs.Ytialefdojeddjaa
open Go.RowKit Go.Maps

/-- one entry gone -/
theorem Rep.del {E : List EV} {N : List EN} (h : Rep E N) {k : KV} {i : Nat} {a : EN} (hi : N[i]? = .some a) (hk : eqP a.k k = true) : Rep (delE E k) (N.take i ++ N.drop (i + 1)) := by
  obtain ⟨hlt, ha⟩ := List.getElem?_eq_some_iff.1 hi
  have hno : ∀ j (hj : j < N.length), j ≠ i → eqP N[j].k k = false := fun j hj hij => by
    rw [Bool.eq_false_iff]
    intro he
    have h3 : eqP N[j].k a.k = true := eqP_trans he (by rw [eqP_comm]; exact hk)
    rcases Nat.lt_or_gt_of_ne hij with hl | hl
    · have h4 := List.pairwise_iff_getElem.1 h.2 j i hj hlt hl
      rw [ha] at h4
      rw [lt3_ne h4] at h3
      cases h3
    · have h4 := List.pairwise_iff_getElem.1 h.2 i j hlt hj hl
      rw [ha] at h4
      have h5 := lt3_ne h4
      rw [eqP_comm, h3] at h5
      cases h5
  have e1 : N.filter (fun b => !(eqP b.k k)) = N.take i ++ N.drop (i + 1) := by
    have e2 : N = N.take i ++ (a :: N.drop (i + 1)) := by rw [← ha, ← List.drop_eq_getElem_cons hlt, List.take_append_drop]
    have f1 : (N.take i).filter (fun b => !(eqP b.k k)) = N.take i := by
      rw [List.filter_eq_self]
      intro b hb
      obtain ⟨j, hj, rfl⟩ := List.getElem_of_mem hb
      have hj' : j < i := by rw [List.length_take] at hj; omega
      rw [List.getElem_take, hno j (by omega) (by omega)]
      rfl
    have f2 : (N.drop (i + 1)).filter (fun b => !(eqP b.k k)) = N.drop (i + 1) := by
      rw [List.filter_eq_self]
      intro b hb
      obtain ⟨j, hj, rfl⟩ := List.getElem_of_mem hb
      rw [List.length_drop] at hj
      rw [List.getElem_drop, hno (i + 1 + j) (by omega) (by omega)]
      rfl
    have e3 := congrArg (List.filter (fun b : EN => !(eqP b.k k))) e2
    rw [List.filter_append, List.filter_cons_of_neg (by rw [hk]; decide), f1, f2] at e3
    exact e3
  refine ⟨?_, ?_⟩
  · rw [← e1]
    have e4 : (delE E k).map (fun e => e.n) = (E.map (fun e => e.n)).filter (fun b => !(eqP b.k k)) := by
      unfold delE
      rw [List.filter_map]
      rfl
    rw [e4]
    exact h.1.filter _
  · rw [← e1]
    exact h.2.sublist (List.filter_sublist)
/-- an entry behind a tick, in numbers -/
def tickN (c : CF) (n : EN) : Option EN := if dueB c n then (if (oldN c n).tr < c.tr then some { oldN c n with ag := 0, tr := (oldN c n).tr + 1 } else none) else some (oldN c n)
theorem tickE_N (c : CF) (e : EV) : (tickE c e).map (fun y => y.n) = tickN c e.n := by
  unfold tickE tickN tkE ag1
  by_cases h : dueB c e.n = true
  · rw [if_pos h, if_pos h]
    split <;> rfl
  · rw [if_neg h, if_neg h]
    rfl
theorem tickN_k {c : CF} {n y : EN} (h : tickN c n = some y) : y.k = n.k := by
  unfold tickN at h
  split at h
  · split at h
    · cases h; exact oldN_k c n
    · cases h
  · cases h; exact oldN_k c n
theorem Rep.tick {E : List EV} {N : List EN} (c : CF) (h : Rep E N) : Rep (E.filterMap (tickE c)) (N.filterMap (tickN c)) := by
  refine ⟨?_, ?_⟩
  · have e1 : (E.filterMap (tickE c)).map (fun e => e.n) = (E.map (fun e => e.n)).filterMap (tickN c) := by
      rw [List.map_filterMap, List.filterMap_map]
      congr 1
      funext e
      exact tickE_N c e
    rw [e1]
    exact h.1.filterMap _
  · rw [List.pairwise_filterMap]
    refine h.2.imp ?_
    intro a b hab y hy z hz
    rw [tickN_k hy, tickN_k hz]
    exact hab
end Go.Proofs.Ytialefdojeddjaa
namespace Go.Proofs.Ytialefdojeddjaa
open Go.RowKit Go.Maps

theorem old_none {E : List EV} {R : List RE} (h : Rep E (R.map (fun r => r.n))) : OldOf E none ↔ OldI R R.length none := by
  constructor
  · intro ho j r _ hr
    obtain ⟨e, he, e2⟩ := h.mem.1 (List.mem_map.2 ⟨r, List.mem_of_getElem? hr, rfl⟩)
    rw [← e2]
    exact ho e he
  · intro ho e he
    obtain ⟨r, hr, e2⟩ := List.mem_map.1 (h.mem.2 ⟨e, he, rfl⟩)
    obtain ⟨j, hj, rfl⟩ := List.getElem_of_mem hr
    rw [← e2]
    exact ho j _ hj (List.getElem?_eq_getElem hj)
theorem old_some {E : List EV} {R : List RE} (h : Rep E (R.map (fun r => r.n))) {s : EV} {k : Nat} (ho : OldOf E (some s)) (hi : OldI R R.length (some k)) : ∃ r, R[k]? = some r ∧ r.n = s.n := by
  obtain ⟨hs, hs3, hall⟩ := ho
  obtain ⟨hk, r, hr, hr3, hmax⟩ := hi
  obtain ⟨q, hq, e2⟩ := List.mem_map.1 (h.mem.2 ⟨s, hs, rfl⟩)
  obtain ⟨j, hj, rfl⟩ := List.getElem_of_mem hq
  obtain ⟨e, he, e3⟩ := h.mem.1 (List.mem_map.2 ⟨r, List.mem_of_getElem? hr, rfl⟩)
  have h1 := hmax j _ hj (List.getElem?_eq_getElem hj) (by rw [e2]; exact hs3)
  have h2 := hall e he (by rw [e3]; exact hr3)
  rw [e2] at h1
  rw [e3] at h2
  have hag : r.n.ag = s.n.ag ∧ ¬ lt3 r.n.k s.n.k := by
    rcases h2 with h2 | h2
    · omega
    · exact h2
  obtain ⟨_, hr2⟩ := List.getElem?_eq_some_iff.1 hr
  have pw := List.pairwise_map.1 h.2
  have hjk : j = k := by
    rcases Nat.lt_trichotomy j k with hl | hl | hl
    · have := h1.2 hl; omega
    · exact hl
    · have h4 := List.pairwise_iff_getElem.1 pw k j hk hj hl
      rw [hr2, e2] at h4
      exact absurd h4 hag.2
  subst hjk
  exact ⟨r, hr, by rw [← e2, hr2]⟩
theorem sortedK_eq : ∀ (xs ys : List KV), xs.Pairwise (fun a b => 0 ≤ ordV b a) → ys.Pairwise lt3 → xs.Perm ys → xs = ys
  | [], ys, _, _, h => by rw [List.nil_perm.1 h]
  | a :: xs, [], _, _, h => by have := h.length_eq; simp at this
  | a :: xs, b :: ys, h1, h2, h => by
    obtain ⟨a1, a2⟩ := List.pairwise_cons.1 h1
    obtain ⟨b1, b2⟩ := List.pairwise_cons.1 h2
    have hab : a = b := by
      rcases List.mem_cons.1 (h.mem_iff.1 (by simp : a ∈ a :: xs)) with e | e
      · exact e
      · rcases List.mem_cons.1 (h.mem_iff.2 (by simp : b ∈ b :: ys)) with e' | e'
        · exact e'.symm
        · have h3 := (ord_lt b a).2 (b1 a e)
          have h4 := a1 b e'
          omega
    subst hab
    rw [sortedK_eq xs ys a2 b2 (List.Perm.cons_inv h)]
/-- the due ones, in the list's order -/
theorem due_same {c : CF} {E : List EV} {N : List EN} (h : Rep E N) {Kd : List KV} (hp : Kd.Perm (dueL c E)) (hs : Kd.Pairwise (fun a b => 0 ≤ ordV b a)) : Kd = (N.filter (fun n => dueB c n)).map (fun n => n.k) := by
  refine sortedK_eq _ _ hs ?_ (hp.trans ?_)
  · exact List.pairwise_map.2 (h.2.sublist List.filter_sublist)
  · unfold dueL
    have e1 : (E.filter (fun e => dueB c e.n)).map (fun e => e.n.k) = ((E.map (fun e => e.n)).filter (fun n => dueB c n)).map (fun n => n.k) := by
      rw [List.filter_map, List.map_map]
      rfl
    rw [e1]
    exact ((h.1.filter _).map _).symm
end Go.Proofs.Ytialefdojeddjaa
namespace Go.Proofs.Ytialefdojeddjaa
open Go.RowKit Go.Maps

def askN (c : CF) (n : EN) : Option AK := if dueB c n then (if (oldN c n).tr < c.tr then some ⟨n.k, (oldN c n).m, (oldN c n).tr + 1⟩ else none) else none
def lostN (c : CF) (n : EN) : List Int := if dueB c n then (if (oldN c n).tr < c.tr then [] else (oldN c n).ln) else []
theorem fE_ag1 {c : CF} {E : List EV} (k : KV) : fE (E.map (ag1 c)) k = (fE E k).map (ag1 c) := by
  unfold fE
  rw [List.find?_map]
  congr 2
  funext e
  show eqP (oldN c e.n).k k = eqP e.n.k k
  rw [oldN_k]
theorem fE_rep {c : CF} {E : List EV} {N : List EN} (d : Dj E) (h : Rep E N) {n : EN} (hn : n ∈ N) : ∃ e ∈ E, e.n = n ∧ fE (E.map (ag1 c)) n.k = some (ag1 c e) := by
  obtain ⟨e, he, rfl⟩ := h.mem.1 hn
  exact ⟨e, he, rfl, by rw [fE_ag1, fE_mem d he (eqP_refl _)]; rfl⟩
theorem filterMap_same {α β : Type} {f g : α → Option β} : ∀ {l : List α}, (∀ a ∈ l, f a = g a) → l.filterMap f = l.filterMap g
  | [], _ => rfl
  | a :: l, h => by rw [List.filterMap_cons, List.filterMap_cons, h a (by simp), filterMap_same (fun b hb => h b (List.mem_cons_of_mem _ hb))]
theorem asks_same {c : CF} {E : List EV} {N : List EN} (d : Dj E) (h : Rep E N) {Kd : List KV} (hp : Kd.Perm (dueL c E)) (hs : Kd.Pairwise (fun a b => 0 ≤ ordV b a)) : asksL c (E.map (ag1 c)) Kd = N.filterMap (askN c) := by
  rw [due_same h hp hs]
  unfold asksL
  rw [List.filterMap_map, List.filterMap_filter]
  apply filterMap_same
  intro n hn
  obtain ⟨e, he, rfl, hf⟩ := fE_rep (c := c) d h hn
  unfold askN
  by_cases hd : dueB c e.n = true
  · rw [if_pos hd, if_pos hd]
    show askOf c (E.map (ag1 c)) e.n.k = _
    unfold askOf
    rw [hf]
    rfl
  · rw [if_neg hd, if_neg hd]
theorem flatMap_if {α β : Type} (p : α → Bool) (f : α → List β) : ∀ l : List α, (l.filter p).flatMap f = l.flatMap (fun a => if p a then f a else [])
  | [] => rfl
  | a :: l => by
    by_cases h : p a = true
    · rw [List.filter_cons_of_pos h, List.flatMap_cons, List.flatMap_cons, if_pos h, flatMap_if p f l]
    · rw [List.filter_cons_of_neg h, List.flatMap_cons, if_neg h, flatMap_if p f l, List.nil_append]
theorem flatMap_same {α β : Type} {f g : α → List β} : ∀ {l : List α}, (∀ a ∈ l, f a = g a) → l.flatMap f = l.flatMap g
  | [], _ => rfl
  | a :: l, h => by rw [List.flatMap_cons, List.flatMap_cons, h a (by simp), flatMap_same (fun b hb => h b (List.mem_cons_of_mem _ hb))]
theorem lost_same {c : CF} {E : List EV} {N : List EN} (d : Dj E) (h : Rep E N) {Kd : List KV} (hp : Kd.Perm (dueL c E)) (hs : Kd.Pairwise (fun a b => 0 ≤ ordV b a)) : lostL c (E.map (ag1 c)) Kd = N.flatMap (lostN c) := by
  rw [due_same h hp hs]
  unfold lostL
  rw [List.flatMap_map, flatMap_if]
  apply flatMap_same
  intro n hn
  obtain ⟨e, he, rfl, hf⟩ := fE_rep (c := c) d h hn
  unfold lostN
  by_cases hd : dueB c e.n = true
  · rw [if_pos hd, if_pos hd]
    unfold lostOf
    rw [hf]
    rfl
  · rw [if_neg hd, if_neg hd]
end Go.Proofs.Ytialefdojeddjaa
namespace Go.Proofs.Ytialefdojeddjaa
open Go.RowKit Go.Maps

/-- the blocks of a cache of the reference -/
def RB (rc : RC) (R : List RE) (q : Nat) : Prop := (∃ off, rc.la = some ⟨q, off, none⟩) ∨ ∃ r ∈ R, ∃ off, r.la = some ⟨q, off, none⟩
structure RSt (rc : RC) (R : List RE) (w : World) : Prop where
  er : ER w rc.la R
  len : R.length = rc.n
  cap : rc.n ≤ rc.lc
  cap2 : rc.lc ≤ 9223372036854775807
  frm : (rc.la = none ∧ rc.lc = 0) ∨ ∃ g off, rc.la = some ⟨g, off, none⟩
  its : ∀ r ∈ R, Seg .i64 w r.la r.n.ln
  lt : ∀ q, RB rc R q → q < w.heap.size
theorem seg_form {k : IntKind} {w : World} {a : Option Addr} {zs : List Int} (h : Seg k w a zs) {x : Addr} (hz : zs ≠ []) (hx : a = some x) : a = some ⟨x.block, x.off, none⟩ := by
  rcases h with h | ⟨b, off, h, _⟩
  · exact absurd h hz
  · rw [h] at hx; cases hx; exact h
theorem RSt.ch {S : Nat → Prop} {rc : RC} {R : List RE} {w w' : World} (h : RSt rc R w) (k : Ch S w w') (hS : ∀ q, RB rc R q → ¬ S q) : RSt rc R w' :=
  ⟨h.er.ch k (fun b off hb => hS b (.inl ⟨off, hb⟩)), h.len, h.cap, h.cap2, h.frm, fun r hr => k.seg (h.its r hr) (fun _ hz hx => hS _ (.inr ⟨r, hr, _, seg_form (h.its r hr) hz hx⟩)), fun q hq => Nat.lt_of_lt_of_le (h.lt q hq) k.size⟩
theorem RSt.below {rc : RC} {R : List RE} {w w' : World} (h : RSt rc R w) (k : Below w.heap.size w w') : RSt rc R w' := h.ch (Ch.ofBelow (S := fun _ => False) k) (fun _ _ => id)
/-- a cache whose list is one's own -/
theorem RSt.made {w : World} {base n : Nat} {va : Option Addr} {vc : Nat} {L : List RE} (c : CF) (h : EL w base (.slice va n vc) L) (hn : n = L.length) (hi : ∀ r ∈ L, Seg .i64 w r.la r.n.ln) (hl : ∀ r ∈ L, ∀ q off, r.la = some ⟨q, off, none⟩ → q < w.heap.size) : RSt ⟨c, va, n, vc⟩ L w ∧ ∀ q off, va = some ⟨q, off, none⟩ → base ≤ q := by
  obtain ⟨va', vc', e, h1, h2, h3⟩ := h.cap
  simp only [Value.slice.injEq] at e
  obtain ⟨rfl, _, rfl⟩ := e
  subst hn
  have hg : (va = none ∧ vc = 0) ∨ ∃ g, va = some ⟨g, 0, none⟩ ∧ base ≤ g ∧ g < w.heap.size := by
    rcases h.2 with ⟨e, h0⟩ | ⟨g, cap, cur, e, hb, hg, _⟩
    · simp only [Value.slice.injEq] at e
      exact .inl ⟨e.1, e.2.2⟩
    · simp only [Value.slice.injEq] at e
      exact .inr ⟨g, e.1, hb, (Array.getElem?_eq_some_iff.1 hg).1⟩
  refine ⟨⟨h1, rfl, h2, h3, ?_, hi, ?_⟩, ?_⟩
  · rcases hg with hg | ⟨g, hg, _⟩
    · exact .inl hg
    · exact .inr ⟨g, 0, hg⟩
  · rintro q (⟨off, hq⟩ | ⟨r, hr, off, hq⟩)
    · rcases hg with ⟨hg, _⟩ | ⟨g, hg, _, hlt⟩
      · simp only [hg] at hq; cases hq
      · simp only [hg] at hq; cases hq; exact hlt
    · exact hl r hr q off hq
  · intro q off hq
    rcases hg with ⟨hg, _⟩ | ⟨g, hg, hb, _⟩
    · rw [hg] at hq; cases hq
    · rw [hg] at hq; cases hq; exact hb
theorem RSt.itl {rc : RC} {R : List RE} {w : World} (h : RSt rc R w) : ∀ r ∈ R, ∀ q off, r.la = some ⟨q, off, none⟩ → q < w.heap.size := fun r hr q off hq => h.lt q (.inr ⟨r, hr, off, hq⟩)

/-- a new entry comes in: what there was room for, where it goes -/
def RAddR (c : CF) (R : List RE) (e : RE) (er : Int) (R' : List RE) : Prop :=
  ((R.length : Int) < c.mx ∧ er = 0 ∧ ∃ p, AtPl R e.n.k p ∧ R' = R.take p ++ e :: R.drop p) ∨
  (¬ (R.length : Int) < c.mx ∧ OldI R R.length none ∧ er = 151 ∧ R' = R) ∨
  (¬ (R.length : Int) < c.mx ∧ ∃ j, OldI R R.length (some j) ∧ er = 0 ∧ ∃ p, AtPl (R.take j ++ R.drop (j + 1)) e.n.k p ∧ R' = (R.take j ++ R.drop (j + 1)).take p ++ e :: (R.take j ++ R.drop (j + 1)).drop p)
/-- what the reference's Want does -/
def RWantR (c : CF) (R : List RE) (k : KV) (item : Int) (R' : List RE) (m : Nat → Nat) (oc er : Int) : Prop :=
  (kB k = false ∧ R' = R ∧ m = mz ∧ oc = 5 ∧ er = 1) ∨ (kB k = true ∧
    (((∀ r ∈ R, eqP r.n.k k = false) ∧ ∃ e : RE, e.n = ⟨k, mz, 1, 0, 1, [item]⟩ ∧ RAddR c R e er R' ∧ m = mz ∧ oc = (if er = 0 then 3 else 5)) ∨
      ∃ (i : Nat) (e : RE), R[i]? = some e ∧ eqP e.n.k k = true ∧
        (((e.n.st = 2 ∨ e.n.st = 4) ∧ R' = R ∧ m = e.n.m ∧ oc = 1 ∧ er = 0) ∨
          (e.n.st = 3 ∧ R' = R.set i ⟨{ e.n with st := 4, ag := 0, tr := 1 }, e.la, e.lc⟩ ∧ m = e.n.m ∧ oc = 2 ∧ er = 0) ∨
          (e.n.st ≠ 2 ∧ e.n.st ≠ 4 ∧ e.n.st ≠ 3 ∧ c.li ≤ (e.n.ln.length : Int) ∧ R' = R ∧ m = mz ∧ oc = 5 ∧ er = 152) ∨
          (e.n.st ≠ 2 ∧ e.n.st ≠ 4 ∧ e.n.st ≠ 3 ∧ ¬ c.li ≤ (e.n.ln.length : Int) ∧ (∃ la lc, R' = R.set i ⟨{ e.n with ln := e.n.ln ++ [item] }, la, lc⟩) ∧ m = mz ∧ oc = 4 ∧ er = 0))))
/-- what the reference's Learn does -/
def RLearnR (c : CF) (R : List RE) (k : KV) (m : Nat → Nat) (how : Int) (R' : List RE) (l : List Int) (er : Int) : Prop :=
  (lB k m how = false ∧ R' = R ∧ l = [] ∧ er = 1) ∨ (lB k m how = true ∧
    (((∀ r ∈ R, eqP r.n.k k = false) ∧ how = 2 ∧ (∃ e : RE, e.n = ⟨k, m, 3, 0, 0, []⟩ ∧ RAddR c R e er R') ∧ l = []) ∨
      ((∀ r ∈ R, eqP r.n.k k = false) ∧ how ≠ 2 ∧ R' = R ∧ l = [] ∧ er = 0) ∨
      ∃ (i : Nat) (e : RE), R[i]? = some e ∧ eqP e.n.k k = true ∧
        ((how ≠ 1 ∧ e.n.st ≠ 1 ∧ same6 e.n.m m = true ∧ R' = R ∧ l = [] ∧ er = 0) ∨
          (¬ (how ≠ 1 ∧ e.n.st ≠ 1 ∧ same6 e.n.m m = true) ∧ (∃ y : RE, y.n = ⟨e.n.k, m, if how = 1 then 2 else 3, 0, 0, []⟩ ∧ R' = R.set i y) ∧ l = e.n.ln ∧ er = 0))))
section
variable {c : CF} {E : List EV} {R : List RE}
abbrev NS (R : List RE) : List EN := R.map (fun r => r.n)
theorem NS_at {i : Nat} {e : RE} (h : R[i]? = some e) : (NS R)[i]? = some e.n := by rw [List.getElem?_map, h]; rfl
theorem rep_at (d : Dj E) (h : Rep E (NS R)) {k : KV} {i : Nat} {r : RE} (hi : R[i]? = some r) (hk : eqP r.n.k k = true) : ∃ e, fE E k = some e ∧ e.n = r.n := by
  obtain ⟨e, he, h1⟩ := h.mem.1 (List.mem_map.2 ⟨r, List.mem_of_getElem? hi, rfl⟩)
  exact ⟨e, fE_mem d he (by rw [h1]; exact hk), h1⟩
theorem rep_no (h : Rep E (NS R)) {k : KV} (hn : ∀ r ∈ R, eqP r.n.k k = false) : fE E k = none := h.fno.2 (fun a ha => by obtain ⟨r, hr, rfl⟩ := List.mem_map.1 ha; exact hn r hr)
theorem rep_wf (hw : ∀ e ∈ E, e.n.k.Wf) (h : Rep E (NS R)) : ∀ a ∈ NS R, a.k.Wf := fun a ha => by obtain ⟨e, he, rfl⟩ := h.mem.1 ha; exact hw e he
theorem rep_put {L : List RE} {E0 : List EV} (h : Rep E0 (NS L)) (hw : ∀ e ∈ E0, e.n.k.Wf) {e : EV} {y : RE} (hy : y.n = e.n) (he : e.n.k.Wf) (hn : ∀ r ∈ L, eqP r.n.k e.n.k = false) {p : Nat} (hp : AtPl L y.n.k p) : Rep (E0 ++ [e]) (NS (L.take p ++ y :: L.drop p)) := by
  have e1 : NS (L.take p ++ y :: L.drop p) = (NS L).take p ++ e.n :: (NS L).drop p := by simp [NS, hy]
  rw [e1]
  rw [hy] at hp
  refine h.add (by have := hp.1; simpa [NS] using this) (rep_wf hw h) he (fun a ha => by obtain ⟨r, hr, rfl⟩ := List.mem_map.1 ha; exact hn r hr) ?_ ?_
  · intro j a hj ha
    rw [List.getElem?_map] at ha
    cases hr : L[j]? with
    | none => rw [hr] at ha; cases ha
    | some r => rw [hr] at ha; cases ha; exact hp.2.1 j r hj hr
  · intro a ha
    rw [List.getElem?_map] at ha
    cases hr : L[p]? with
    | none => rw [hr] at ha; cases ha
    | some r => rw [hr] at ha; cases ha; exact hp.2.2 r hr
theorem add_same (hok : EOk c E) (h : Rep E (NS R)) (hw : ∀ e ∈ E, e.n.k.Wf) {e : EV} {y : RE} (hy : y.n = e.n) (he : e.n.k.Wf) (hn : ∀ r ∈ R, eqP r.n.k e.n.k = false) {er er' : Int} {E' : List EV} {R' : List RE} (h1 : AddR c E e er E') (h2 : RAddR c R y er' R') : er = er' ∧ Rep E' (NS R') := by
  have hl : R.length = E.length := by have := h.len; simpa [NS] using this
  have h0 := hok.1
  rcases h1 with ⟨a1, rfl, rfl⟩ | ⟨a1, a2, rfl, rfl⟩ | ⟨a1, s, a2, rfl, rfl⟩
  · rcases h2 with ⟨b1, rfl, p, hp, rfl⟩ | ⟨b1, _⟩ | ⟨b1, _⟩
    · exact ⟨rfl, rep_put h hw hy he hn hp⟩
    · omega
    · omega
  · rcases h2 with ⟨b1, _⟩ | ⟨b1, b2, rfl, rfl⟩ | ⟨b1, j, b2, _⟩
    · omega
    · exact ⟨rfl, h⟩
    · have a3 := (old_none h).1 a2
      obtain ⟨b3, t, b4, b5, _⟩ := b2
      exact absurd b5 (a3 j t b3 b4)
  · rcases h2 with ⟨b1, _⟩ | ⟨b1, b2, _⟩ | ⟨b1, j, b2, rfl, p, hp, rfl⟩
    · omega
    · have a3 := (old_none h).2 b2
      exact absurd a2.2.1 (a3 s a2.1)
    · obtain ⟨r, hr, hrs⟩ := old_some h a2 b2
      have hd : Rep (delE E s.n.k) (NS (R.take j ++ R.drop (j + 1))) := by
        have := h.del (k := s.n.k) (NS_at hr) (by rw [hrs]; exact eqP_refl s.n.k)
        simpa [NS] using this
      refine ⟨rfl, rep_put hd (fun a ha => hw a (List.mem_filter.1 ha).1) hy he (fun r hr => hn r ?_) hp⟩
      rcases List.mem_append.1 hr with hr | hr
      · exact List.mem_of_mem_take hr
      · exact List.mem_of_mem_drop hr
theorem set_same (h : Rep E (NS R)) {k : KV} {i : Nat} {r y : RE} {e' : EV} (hi : R[i]? = some r) (hk : eqP r.n.k k = true) (hy : y.n = e'.n) (hk' : e'.n.k = r.n.k) : Rep (updE E k e') (NS (R.set i y)) := by
  have := h.upd (k := k) (e' := e') (NS_at hi) hk hk'
  rw [NS, List.map_set, hy]
  exact this
theorem want_same (hok : EOk c E) (d : Dj E) (h : Rep E (NS R)) (hw : ∀ e ∈ E, e.n.k.Wf) {k : KV} (hk : k.Wf) {item : Int} {E' : List EV} {R' : List RE} {m m' : Nat → Nat} {oc oc' er er' : Int} (h1 : WantR c E k item E' m oc er) (h2 : RWantR c R k item R' m' oc' er') : m = m' ∧ oc = oc' ∧ er = er' ∧ Rep E' (NS R') := by
  rcases h1 with ⟨a1, rfl, rfl, rfl, rfl⟩ | ⟨a1, a2⟩
  · rcases h2 with ⟨b1, rfl, rfl, rfl, rfl⟩ | ⟨b1, _⟩
    · exact ⟨rfl, rfl, rfl, h⟩
    · rw [a1] at b1; cases b1
  · rcases h2 with ⟨b1, _⟩ | ⟨b1, ⟨b2, y, b3, b4, rfl, rfl⟩ | ⟨i, r, b2, b3, b4⟩⟩
    · rw [a1] at b1; cases b1
    · rcases a2 with ⟨a3, e, a4, a5, rfl, rfl⟩ | ⟨e, a3, _⟩
      · obtain ⟨rfl, hR⟩ := add_same hok h hw (b3.trans a4.symm) (by rw [a4]; exact hk) (by rw [a4]; exact b2) a5 b4
        exact ⟨rfl, rfl, rfl, hR⟩
      · rw [rep_no h b2] at a3; cases a3
    · obtain ⟨e, he, hen⟩ := rep_at d h b2 b3
      have hst := (hok.2 e (fE_some he).1).st
      have hln := (hok.2 e (fE_some he).1).ln
      rcases a2 with ⟨a3, _⟩ | ⟨e2, a3, a4⟩
      · rw [he] at a3; cases a3
      · rw [he] at a3
        cases a3
        rw [← hen] at b4
        rcases b4 with ⟨s1, rfl, rfl, rfl, rfl⟩ | ⟨s1, rfl, rfl, rfl, rfl⟩ | ⟨s1, s2, s3, s4, rfl, rfl, rfl, rfl⟩ | ⟨s1, s2, s3, s4, ⟨la, lc, rfl⟩, rfl, rfl, rfl⟩
        · rcases a4 with ⟨t1, _⟩ | ⟨t1, _⟩ | ⟨t1, _⟩ | ⟨t1, t2, rfl, rfl, rfl, rfl⟩
          · omega
          · omega
          · omega
          · exact ⟨rfl, rfl, rfl, h⟩
        · rcases a4 with ⟨t1, _⟩ | ⟨t1, _⟩ | ⟨t1, rfl, rfl, rfl, rfl⟩ | ⟨t1, t2, _⟩
          · omega
          · omega
          · exact ⟨rfl, rfl, rfl, set_same h b2 b3 rfl (by rw [← hen])⟩
          · omega
        · rcases a4 with ⟨t1, t2, rfl, rfl, rfl, rfl⟩ | ⟨t1, t2, _⟩ | ⟨t1, _⟩ | ⟨t1, t2, _⟩
          · exact ⟨rfl, rfl, rfl, h⟩
          · omega
          · omega
          · omega
        · rcases a4 with ⟨t1, t2, _⟩ | ⟨t1, t2, ⟨lv', rfl⟩, rfl, rfl, rfl⟩ | ⟨t1, _⟩ | ⟨t1, t2, _⟩
          · omega
          · exact ⟨rfl, rfl, rfl, set_same h b2 b3 rfl (by rw [← hen])⟩
          · omega
          · omega
theorem learn_same (hok : EOk c E) (h2 : E2 E) (d : Dj E) (h : Rep E (NS R)) (hw : ∀ e ∈ E, e.n.k.Wf) {k : KV} (hk : k.Wf) {mc : Nat → Nat} {how : Int} {E' : List EV} {R' : List RE} {v : Value} {l l' : List Int} {er er' : Int} (a : LearnR c E k mc how E' v l er) (b : RLearnR c R k mc how R' l' er') : l = l' ∧ er = er' ∧ Rep E' (NS R') := by
  rcases a with ⟨a1, rfl, _, rfl, rfl⟩ | ⟨a1, a2⟩
  · rcases b with ⟨b1, rfl, rfl, rfl⟩ | ⟨b1, _⟩
    · exact ⟨rfl, rfl, h⟩
    · rw [a1] at b1; cases b1
  · rcases b with ⟨b1, _⟩ | ⟨b1, ⟨b2, b3, ⟨y, b4, b5⟩, rfl⟩ | ⟨b2, b3, rfl, rfl, rfl⟩ | ⟨i, r, b2, b3, b4⟩⟩
    · rw [a1] at b1; cases b1
    · rcases a2 with ⟨a3, a4, ⟨e, a5, a6⟩, _, rfl⟩ | ⟨a3, a4, _⟩ | ⟨e, a3, _⟩
      · obtain ⟨rfl, hR⟩ := add_same hok h hw (b4.trans a5.symm) (by rw [a5]; exact hk) (by rw [a5]; exact b2) a6 b5
        exact ⟨rfl, rfl, hR⟩
      · exact absurd b3 a4
      · rw [rep_no h b2] at a3; cases a3
    · rcases a2 with ⟨a3, a4, _⟩ | ⟨a3, a4, rfl, _, rfl, rfl⟩ | ⟨e, a3, _⟩
      · exact absurd a4 b3
      · exact ⟨rfl, rfl, h⟩
      · rw [rep_no h b2] at a3; cases a3
    · obtain ⟨e, he, hen⟩ := rep_at d h b2 b3
      rcases a2 with ⟨a3, _⟩ | ⟨a3, _⟩ | ⟨e2, a3, a4⟩
      · rw [he] at a3; cases a3
      · rw [he] at a3; cases a3
      · rw [he] at a3
        cases a3
        rw [← hen] at b4
        have hm0 := (h2 e (fE_some he).1).m0
        rcases b4 with ⟨s1, s2, s3, rfl, rfl, rfl⟩ | ⟨s1, ⟨y, s2, rfl⟩, rfl, rfl⟩
        · rcases a4 with ⟨t1, _⟩ | ⟨t1, t2, _⟩ | ⟨t1, t2, rfl, _, rfl, rfl⟩
          · exact absurd t1 s1
          · rw [s3] at t2; cases t2
          · exact ⟨rfl, rfl, h⟩
        · rcases a4 with ⟨t1, rfl, _, rfl, rfl⟩ | ⟨t1, t2, rfl, _, rfl, rfl⟩ | ⟨t1, t2, _⟩
          · exact ⟨rfl, rfl, set_same h b2 b3 (by rw [s2, if_pos t1]) (by rw [← hen])⟩
          · exact ⟨rfl, rfl, set_same h b2 b3 (by rw [s2, if_neg t1]) (by rw [← hen])⟩
          · exfalso
            have hs1 : e.n.st = 1 := Decidable.byContradiction fun hc => s1 ⟨t1, hc, t2⟩
            rw [hm0 hs1] at t2
            have hmB : mB mc = true := by
              unfold lB at a1
              simp only [Bool.and_eq_true] at a1
              exact a1.1.2
            unfold mB at hmB
            simp only [Bool.and_eq_true, Bool.not_eq_true'] at hmB
            have h6 := hmB.1
            unfold same6 at t2 h6
            simp only [decide_eq_true_eq, decide_eq_false_iff_not] at t2 h6
            exact h6 ⟨t2.1.symm, t2.2.1.symm, t2.2.2.1.symm, t2.2.2.2.1.symm, t2.2.2.2.2.1.symm, t2.2.2.2.2.2.symm⟩
end
end Go.Proofs.Ytialefdojeddjaa
namespace Go.Proofs.Ytialefdojeddjaa
open Go.RowKit Go.Maps

theorem RchAt.all {w : World} {O : Nat} {c : RC} (h : RchAt w O c) : w.rangeAt O 0 (rcC c).toList := by
  have e := RchAt.range h 0 (rcC c).size
  rwa [Nat.zero_add, Array.extract_size] at e
theorem RenAt.mac {w : World} {O : Nat} {r : RE} (h : RenAt w O r) : w.rangeAt O 18 (macC r.n.m).toList := by
  have e := RenAt.range h 18 6
  exact e
theorem range_ch {S : Nat → Prop} {a b : World} {g o : Nat} {l : List Value} (h : a.rangeAt g o l) (k : Ch S a b) (hS : ¬ S g) : b.rangeAt g o l := fun i v hi => k.cell (h i v hi) hS
theorem run_buildnbW (k : KV) (w : World) : (Instr.build 48 #[(0, .int .i64 k.pt), (1, .agg (ipCells k.V k.x)), (3, .int .i64 1), (5, .int .i64 1), (6, .int .i64 1)]).run Try.prog w = .ok (.agg (nbC ⟨k, mz, 1, 0, 1, 1⟩)) w := by kernel_rfl
theorem wpList_build_nbW {ops : Array Oper} {rest : List Oper} {o : Oper} {a : Act} {w : World} {Q : Exit → Act → World → Prop} (x y : Operand) (ho : o.op = .build 48 #[(0, x), (1, y), (3, .const (.int .i64 1)), (5, .const (.int .i64 1)), (6, .const (.int .i64 1))]) (k : KV) (hx : a.eval x = .int .i64 k.pt) (hy : a.eval y = .agg (ipCells k.V k.x)) (hw : Region.wanted o (yielded ops a.tmps) = true)
    (h : wpList Try.prog ops Q rest (a.put o.dst (.agg (nbC ⟨k, mz, 1, 0, 1, 1⟩))) w) : wpList Try.prog ops Q (o :: rest) a w := by
  refine wpList_step fun K hK => ?_
  rw [if_pos hw]
  have hrun : (execOp a.eval o).run Try.prog w = .ok (.value (.agg (nbC ⟨k, mz, 1, 0, 1, 1⟩))) w := by
    unfold execOp
    simp only [ho, Sem.run_bind, List.map_toArray, List.map_cons, List.map_nil, hx, hy]
    have := run_buildnbW k w
    simp only [show ∀ l, a.eval (.const l) = l from fun _ => rfl, this, Result.andThen_ok]
    rfl
  unfold Oper.wp
  rw [hrun]
  exact hK _ _ h
theorem run_buildnbL (k : KV) (m : Nat → Nat) (w : World) : (Instr.build 48 #[(0, .int .i64 k.pt), (1, .agg (ipCells k.V k.x)), (2, .agg (macC m)), (3, .int .i64 3)]).run Try.prog w = .ok (.agg (nbC ⟨k, m, 3, 0, 0, 0⟩)) w := by kernel_rfl
theorem wpList_build_nbL {ops : Array Oper} {rest : List Oper} {o : Oper} {a : Act} {w : World} {Q : Exit → Act → World → Prop} (x y z : Operand) (ho : o.op = .build 48 #[(0, x), (1, y), (2, z), (3, .const (.int .i64 3))]) (k : KV) (m : Nat → Nat) (hx : a.eval x = .int .i64 k.pt) (hy : a.eval y = .agg (ipCells k.V k.x)) (hz : a.eval z = .agg (macC m)) (hw : Region.wanted o (yielded ops a.tmps) = true)
    (h : wpList Try.prog ops Q rest (a.put o.dst (.agg (nbC ⟨k, m, 3, 0, 0, 0⟩))) w) : wpList Try.prog ops Q (o :: rest) a w := by
  refine wpList_step fun K hK => ?_
  rw [if_pos hw]
  have hrun : (execOp a.eval o).run Try.prog w = .ok (.value (.agg (nbC ⟨k, m, 3, 0, 0, 0⟩))) w := by
    unfold execOp
    simp only [ho, Sem.run_bind, List.map_toArray, List.map_cons, List.map_nil, hx, hy, hz]
    have := run_buildnbL k m w
    simp only [show ∀ l, a.eval (.const l) = l from fun _ => rfl, this, Result.andThen_ok]
    rfl
  unfold Oper.wp
  rw [hrun]
  exact hK _ _ h
theorem run_buildre (r : RE) (w : World) : (Instr.build 163 #[(0, .agg (nbC r.n.nb)), (1, .slice r.la r.n.ln.length r.lc)]).run Try.prog w = .ok (.agg (reC r)) w := by kernel_rfl
theorem wpList_build_re {ops : Array Oper} {rest : List Oper} {o : Oper} {a : Act} {w : World} {Q : Exit → Act → World → Prop} (x y : Operand) (ho : o.op = .build 163 #[(0, x), (1, y)]) (r : RE) (hx : a.eval x = .agg (nbC r.n.nb)) (hy : a.eval y = .slice r.la r.n.ln.length r.lc) (hw : Region.wanted o (yielded ops a.tmps) = true)
    (h : wpList Try.prog ops Q rest (a.put o.dst (.agg (reC r))) w) : wpList Try.prog ops Q (o :: rest) a w := by
  refine wpList_step fun K hK => ?_
  rw [if_pos hw]
  unfold Oper.wp execOp
  simp only [ho, Sem.run_bind, List.map_toArray, List.map_cons, List.map_nil, hx, hy, run_buildre r w, Result.andThen_ok]
  exact hK _ _ h
theorem run_buildre0 (nb : NB) (w : World) : (Instr.build 163 #[(0, .agg (nbC nb))]).run Try.prog w = .ok (.agg ((nbC nb).push (.slice none 0 0))) w := by kernel_rfl
theorem wpList_build_re0 {ops : Array Oper} {rest : List Oper} {o : Oper} {a : Act} {w : World} {Q : Exit → Act → World → Prop} (x : Operand) (ho : o.op = .build 163 #[(0, x)]) (nb : NB) (r : RE) (hr : (nbC nb).push (.slice none 0 0) = reC r) (hx : a.eval x = .agg (nbC nb)) (hw : Region.wanted o (yielded ops a.tmps) = true)
    (h : wpList Try.prog ops Q rest (a.put o.dst (.agg (reC r))) w) : wpList Try.prog ops Q (o :: rest) a w := by
  refine wpList_step fun K hK => ?_
  rw [if_pos hw]
  unfold Oper.wp execOp
  simp only [ho, Sem.run_bind, List.map_toArray, List.map_cons, List.map_nil, hx, run_buildre0 nb w, hr, Result.andThen_ok]
  exact hK _ _ h
theorem results_want {fn : Func} {p p2 u v : Tmp} (h : fn.results = #[.cell p 87, .cell p2 33, .tmp u, .tmp v]) (tmps : Array Value) (w : World) (O : Nat) (c : RC) (O2 : Nat) (m : Nat → Nat) (hp : tmps.getD p undef = .pointer (some ⟨O, 0, none⟩)) (hp2 : tmps.getD p2 undef = .pointer (some ⟨O2, 0, none⟩)) (hb : RchAt w O c) (hb2 : MacAt w O2 m) :
    (results fn tmps).run Try.prog w = .ok (.tuple #[.agg (rcC c), .agg (macC m), tmps.getD u undef, tmps.getD v undef]) w := by
  have hp' : tmps[p]?.getD undef = .pointer (some ⟨O, 0, none⟩) := by simpa using hp
  have hp2' : tmps[p2]?.getD undef = .pointer (some ⟨O2, 0, none⟩) := by simpa using hp2
  simp [results, h, hp', hp2', asAddr, run_loadVar_row w O _ 87 (rcC c) _ _ hb Try.underlying87 rfl Try.size_rch, run_loadVar_row w O2 _ 33 (macC m) _ _ hb2 Try.underlying33 rfl Try.size_mac]
/-- the reference's Want under way: its boxes -/
structure WS (w : World) (B : Nat) (rc : RC) (k : KV) (A : World) : Prop where
  c : RchAt A B rc
  ip : IprAt A (B + 1) k.V k.x
  rc : RchAt A (B + 2) rcz
  rm : MacAt A (B + 3) mz
  no : MacAt A (B + 4) mz
  bel : Below w.heap.size w A
  sz : B + 5 ≤ A.heap.size
theorem WS.below {w A A' : World} {B : Nat} {rc : RC} {k : KV} (h : WS w B rc k A) (b : Below A.heap.size A A') : WS w B rc k A' := ⟨h.c.below b, h.ip.below b, h.rc.below b, h.rm.below b, h.no.below b, bthen h.bel b, Nat.le_trans h.sz b.size⟩
theorem WS.ch {S : Nat → Prop} {w A A' : World} {B : Nat} {rc : RC} {k : KV} (h : WS w B rc k A) (b : Ch S A A') (hS : ∀ q, S q → B + 5 ≤ q) (hB : w.heap.size = B) : WS w B rc k A' := ⟨h.c.ch b (fun s => by have := hS _ s; omega), h.ip.ch b (fun s => by have := hS _ s; omega), h.rc.ch b (fun s => by have := hS _ s; omega), h.rm.ch b (fun s => by have := hS _ s; omega), h.no.ch b (fun s => by have := hS _ s; omega), h.bel.trans (b.below (fun q s => by have := hS _ s; omega) h.bel.size), Nat.le_trans h.sz b.size⟩
theorem WS.setl {w A : World} {B : Nat} {rc : RC} {k : KV} (h : WS w B rc k A) (hB : w.heap.size = B) (la : Option Addr) (n lc : Nat) : WS w B ⟨rc.c, la, n, lc⟩ k (A.setCell ⟨B, 5, none⟩ (.slice la n lc)) := by
  have kX : Ch (fun q => q = B) A (A.setCell ⟨B, 5, none⟩ (.slice la n lc)) := (Ch.refl (fun q => q = B) A).set _ _ rfl
  exact ⟨h.c.setl la n lc, h.ip.ch kX (by omega), h.rc.ch kX (by omega), h.rm.ch kX (by omega), h.no.ch kX (by omega), h.bel.trans (kX.below (fun q e => by have e' : q = B := e; omega) h.bel.size), Nat.le_trans h.sz kX.size⟩
/-- at a way out -/
def EX (w : World) (X : Nat) (rcv : RC) (Y yo : Nat) (mv : Nat → Nat) (R' : List RE) (A : World) : Prop := RchAt A X rcv ∧ A.rangeAt Y yo (macC mv).toList ∧ Below w.heap.size w A ∧ RSt rcv R' A
theorem EX.ch {w A A' : World} {X : Nat} {rcv : RC} {Y yo Z : Nat} {mv : Nat → Nat} {R' : List RE} (h : EX w X rcv Y yo mv R' A) (k : Ch (fun q => q = Z) A A') (h1 : X ≠ Z) (h2 : Y ≠ Z) (h3 : w.heap.size ≤ Z) (h4 : ∀ q, RB rcv R' q → q ≠ Z) : EX w X rcv Y yo mv R' A' :=
  ⟨h.1.ch k h1, range_ch h.2.1 k h2, h.2.2.1.trans (k.below (fun q e => by have e' : q = Z := e; omega) h.2.2.1.size), h.2.2.2.ch k h4⟩
theorem EX.drew {w A A' : World} {X : Nat} {rcv : RC} {Y yo : Nat} {mv : Nat → Nat} {R' : List RE} (h : EX w X rcv Y yo mv R' A) (b : Below A.heap.size A A') : EX w X rcv Y yo mv R' A' :=
  ⟨h.1.below b, range_ch h.2.1 (Ch.ofBelow (S := fun _ => False) b) id, bthen h.2.2.1 b, h.2.2.2.below b⟩
theorem rb_ne {rc : RC} {R : List RE} {B Z q : Nat} (hlt : ∀ q, RB rc R q → q < B) (h : RB rc R q ∨ B + 5 ≤ q) (h1 : B ≤ Z) (h2 : Z < B + 5) (e : q = Z) : False := by
  rcases h with g | g
  · have := hlt q g; omega
  · omega
/-- room, in one word -/
def RoomQ (rc : RC) (R : List RE) (r : Ending) (w' : World) : Prop :=
  (¬ (R.length : Int) < rc.c.mx ∧ OldI R R.length none ∧ r = .returned (.tuple #[.agg (rcC rc), .bool false])) ∨
  ∃ rcd L, r = .returned (.tuple #[.agg (rcC rcd), .bool true]) ∧ rcd.c = rc.c ∧ RSt rcd L w' ∧ (∀ e ∈ L, e ∈ R) ∧ (((R.length : Int) < rc.c.mx ∧ L = R) ∨ (¬ (R.length : Int) < rc.c.mx ∧ ∃ j, OldI R R.length (some j) ∧ L = R.take j ++ R.drop (j + 1)))
theorem rroom_rs {rc : RC} {R : List RE} {w : World} (h : RSt rc R w) (hl : rc.n ≤ 9000) : Calls Try.prog 94 #[.agg (rcC rc)] w fun r w' => Below w.heap.size w w' ∧ RoomQ rc R r w' := by
  refine (rroom_any rc R w h.er h.len hl h.cap h.cap2).mono ?_
  rintro r w' ⟨b, ⟨h1, rfl⟩ | ⟨h1, h2, rfl⟩ | ⟨h1, j, la, lc, h2, rfl, h3⟩⟩
  · exact ⟨b, .inr ⟨rc, R, rfl, rfl, h.below b, fun _ h => h, .inl ⟨by rw [h.len]; exact h1, rfl⟩⟩⟩
  · exact ⟨b, .inl ⟨by rw [h.len]; exact h1, by rw [h.len]; exact h2, rfl⟩⟩
  · have hs : ∀ e ∈ R.take j ++ R.drop (j + 1), e ∈ R := fun e he => by
      rcases List.mem_append.1 he with he | he
      · exact List.mem_of_mem_take he
      · exact List.mem_of_mem_drop he
    obtain ⟨h4, _⟩ := RSt.made rc.c h3 rfl (fun r hr => (h.below b).its r (hs r hr)) (fun r hr => (h.below b).itl r (hs r hr))
    exact ⟨b, .inr ⟨_, _, rfl, rfl, h4, hs, .inr ⟨by rw [h.len]; exact h1, j, by rw [h.len]; exact h2, rfl⟩⟩⟩
/-- with, in these words -/
theorem rwith_rs {rc : RC} {L : List RE} {w : World} (h : RSt rc L w) (r : RE) (hl : rc.n ≤ 9000) (hx : ∀ e ∈ L, e.n.k.Wf) (hr : r.n.k.Wf) (hs : Seg .i64 w r.la r.n.ln) (hlt : ∀ q off, r.la = some ⟨q, off, none⟩ → q < w.heap.size) : Calls Try.prog 95 #[.slice rc.la rc.n rc.lc, .agg (reC r)] w fun e w' =>
    ∃ va n vc p, e = .returned (.slice va n vc) ∧ AtPl L r.n.k p ∧ RSt ⟨rc.c, va, n, vc⟩ (L.take p ++ r :: L.drop p) w' ∧ (∀ q off, va = some ⟨q, off, none⟩ → w.heap.size ≤ q) ∧ Below w.heap.size w w' := by
  refine (rwith_any rc.la rc.n rc.lc L r w h.er h.len hl h.cap h.cap2 h.frm hx hr).mono ?_
  rintro e w' ⟨v, p, rfl, hp, hEL, b⟩
  obtain ⟨va, vc, rfl, _, _, _⟩ := hEL.cap
  have hm : ∀ y ∈ L.take p ++ r :: L.drop p, y ∈ L ∨ y = r := fun y hy => by
    rcases List.mem_append.1 hy with hy | hy
    · exact .inl (List.mem_of_mem_take hy)
    · rcases List.mem_cons.1 hy with hy | hy
      · exact .inr hy
      · exact .inl (List.mem_of_mem_drop hy)
  obtain ⟨h1, h2⟩ := RSt.made rc.c hEL rfl (fun y hy => (hm y hy).elim (fun g => (h.below b).its y g) (fun g => by rw [g]; exact hs.old b)) (fun y hy => (hm y hy).elim (fun g => (h.below b).itl y g) (fun g q off hq => by rw [g] at hq; have := hlt q off hq; have := b.size; omega))
  exact ⟨va, _, vc, p, rfl, hp, h1, h2, b⟩
/-- put, in these words -/
theorem rput_rs {rc : RC} {R : List RE} {w : World} (h : RSt rc R w) (i : Nat) (r : RE) (hl : rc.n ≤ 9000) (hi : i < rc.n) (hs : Seg .i64 w r.la r.n.ln) (hlt : ∀ q off, r.la = some ⟨q, off, none⟩ → q < w.heap.size) : Calls Try.prog 96 #[.slice rc.la rc.n rc.lc, .int .i64 (i : Int), .agg (reC r)] w fun e w' =>
    ∃ va n vc, e = .returned (.slice va n vc) ∧ RSt ⟨rc.c, va, n, vc⟩ (R.set i r) w' ∧ (∀ q off, va = some ⟨q, off, none⟩ → w.heap.size ≤ q) ∧ Below w.heap.size w w' := by
  refine (rput_any rc.la rc.n rc.lc R i r w h.er h.len (by omega) hi).mono ?_
  rintro e w' ⟨v, rfl, hEL, b⟩
  obtain ⟨va, vc, rfl, _, _, _⟩ := hEL.cap
  have hm : ∀ y ∈ R.set i r, y ∈ R ∨ y = r := fun y hy => (List.mem_or_eq_of_mem_set hy)
  obtain ⟨h1, h2⟩ := RSt.made rc.c hEL rfl (fun y hy => (hm y hy).elim (fun g => (h.below b).its y g) (fun g => by rw [g]; exact hs.old b)) (fun y hy => (hm y hy).elim (fun g => (h.below b).itl y g) (fun g q off hq => by rw [g] at hq; have := hlt q off hq; have := b.size; omega))
  exact ⟨va, _, vc, rfl, h1, h2, b⟩
end Go.Proofs.Ytialefdojeddjaa
namespace Go.Proofs.Ytialefdojeddjaa
open Go.RowKit Go.Maps

def setL : Array Value → Nat → List Value → Array Value
  | c, _, [] => c
  | c, o, v :: r => setL (c.setIfInBounds o v) (o + 1) r
theorem heap_setCells (g : Nat) (ty : TypeId) : ∀ (vs : List Value) (o : Nat) (w : World) (c : Array Value), w.heap[g]? = some (.cells c ty (0, 0)) → (w.setCells g o vs).heap[g]? = some (.cells (setL c o vs) ty (0, 0))
  | [], _, _, _, h => h
  | v :: r, o, w, _, h => heap_setCells g ty r (o + 1) _ _ (heap_setCell_same w g o _ _ v h)
theorem wpList_store_nbmc {ops : Array Oper} {rest : List Oper} {o : Oper} {a : Act} {w : World} {Q : Exit → Act → World → Prop} (x y : Operand) (ho : o.op = .store 48 x y) (hd : o.dst = none) (O : Nat) (c : Array Value) (r' : RE) (nb : NB) (hx : a.eval x = .pointer (some ⟨O, 0, none⟩)) (hy : a.eval y = .agg (nbC nb)) (hb : w.heap[O]? = some (.cells c 163 (0, 0))) (hc : c.size = 29) (hr : setL c 0 (nbC nb).toList = reC r')
    (hw : Region.wanted o (yielded ops a.tmps) = true) (hh : ∀ w', RenAt w' O r' → Ch (fun q => q = O) w w' → wpList Try.prog ops Q rest a w') : wpList Try.prog ops Q (o :: rest) a w := by
  refine wpList_step fun K hK => ?_
  rw [if_pos hw]
  have ht : w.there O 0 28 := fun j hj => by
    refine ⟨?_, by simp [World.frozen?, hb]⟩
    simp only [World.cell?, hb, Nat.zero_add]
    rw [Array.getElem?_eq_getElem (by rw [hc]; omega)]
    rfl
  refine wp_store_mid 48 x y ho O 0 (nbC nb) hx hy ht Try.size_nbr (by simp [nbC, Value.oneCell']) (hK _ _ ?_)
  rw [hd]
  refine hh _ ?_ (ch_setCells w O _ _)
  have h9 := heap_setCells O 163 (nbC nb).toList 0 w c hb
  rw [hr] at h9
  exact h9
theorem setL_nb (e : RE) (nb : NB) (v : Value) : setL ((reC e).setIfInBounds 28 v) 0 (nbC nb).toList = (nbC nb).push v := by
  simp [setL, nbC, reC]
theorem size_28 (e : RE) (v : Value) : ((reC e).setIfInBounds 28 v).size = 29 := by rw [Array.size_setIfInBounds]; rfl
theorem nb_key {p q : KV} (h : eqP p q = true) (m : Nat → Nat) (s a t u : Int) : nbC ⟨p, m, s, a, t, u⟩ = nbC ⟨q, m, s, a, t, u⟩ := by
  unfold eqP at h
  simp only [Bool.and_eq_true, beq_iff_eq, same16, decide_eq_true_eq] at h
  obtain ⟨⟨h1, h2⟩, h3⟩ := h
  simp only [nbC, h1, h2, h3]
theorem results_learn {fn : Func} {p u v : Tmp} (h : fn.results = #[.cell p 87, .tmp u, .tmp v]) (tmps : Array Value) (w : World) (O : Nat) (c : RC) (hp : tmps.getD p undef = .pointer (some ⟨O, 0, none⟩)) (hb : RchAt w O c) :
    (results fn tmps).run Try.prog w = .ok (.tuple #[.agg (rcC c), tmps.getD u undef, tmps.getD v undef]) w := by
  have hp' : tmps[p]?.getD undef = .pointer (some ⟨O, 0, none⟩) := by simpa using hp
  simp [results, h, hp', asAddr, run_loadVar_row w O _ 87 (rcC c) _ _ hb Try.underlying87 rfl Try.size_rch]
theorem rem_u8 : ∀ a, a < 256 → (((a : Nat) : Int) % 2 == 1) = (a % 2 == 1) := by decide +kernel
/-- the reference's Learn under way: its boxes -/
structure VS (w : World) (B : Nat) (rc : RC) (k : KV) (m : Nat → Nat) (A : World) : Prop where
  c : RchAt A B rc
  ip : IprAt A (B + 1) k.V k.x
  mc : MacAt A (B + 2) m
  rc : RchAt A (B + 3) rcz
  no : MacAt A (B + 4) mz
  bel : Below w.heap.size w A
  sz : B + 5 ≤ A.heap.size
theorem VS.below {w A A' : World} {B : Nat} {rc : RC} {k : KV} {m : Nat → Nat} (h : VS w B rc k m A) (b : Below A.heap.size A A') : VS w B rc k m A' := ⟨h.c.below b, h.ip.below b, h.mc.below b, h.rc.below b, h.no.below b, bthen h.bel b, Nat.le_trans h.sz b.size⟩
theorem VS.ch {S : Nat → Prop} {w A A' : World} {B : Nat} {rc : RC} {k : KV} {m : Nat → Nat} (h : VS w B rc k m A) (b : Ch S A A') (hS : ∀ q, S q → B + 5 ≤ q) (hB : w.heap.size = B) : VS w B rc k m A' := ⟨h.c.ch b (fun s => by have := hS _ s; omega), h.ip.ch b (fun s => by have := hS _ s; omega), h.mc.ch b (fun s => by have := hS _ s; omega), h.rc.ch b (fun s => by have := hS _ s; omega), h.no.ch b (fun s => by have := hS _ s; omega), h.bel.trans (b.below (fun q s => by have := hS _ s; omega) h.bel.size), Nat.le_trans h.sz b.size⟩
theorem VS.setl {w A : World} {B : Nat} {rc : RC} {k : KV} {m : Nat → Nat} (h : VS w B rc k m A) (hB : w.heap.size = B) (la : Option Addr) (n lc : Nat) : VS w B ⟨rc.c, la, n, lc⟩ k m (A.setCell ⟨B, 5, none⟩ (.slice la n lc)) := by
  have kX : Ch (fun q => q = B) A (A.setCell ⟨B, 5, none⟩ (.slice la n lc)) := (Ch.refl (fun q => q = B) A).set _ _ rfl
  exact ⟨h.c.setl la n lc, h.ip.ch kX (by omega), h.mc.ch kX (by omega), h.rc.ch kX (by omega), h.no.ch kX (by omega), h.bel.trans (kX.below (fun q e => by have e' : q = B := e; omega) h.bel.size), Nat.le_trans h.sz kX.size⟩
end Go.Proofs.Ytialefdojeddjaa
namespace Go.Proofs.Ytialefdojeddjaa.MixH
open Go.Proofs.Ytialefdojeddjaa.Mix
/-- one of two may come up -/
theorem pair {P : Program} {l : List Oper} {Q : Exit → Act → World → Prop} {S : World → Prop} {F : Nat} {listed : Array Bool} {a : Act} {w : World} (fs1 fs2 : List Bool) (fuel : Nat) (i j : Nat) (o1 o2 : Oper) (ho1 : pick fs1 l = [o1]) (ho2 : pick fs2 l = [o2]) (hi : l[i]? = some o1) (hj : l[j]? = some o2) (hr : Region.ready .any l.toArray listed = [i, j]) (hF : F = fuel + 1)
    (h1 : ∀ K : Act → World → Prop, (∀ a' w', S w' → wpAnyH P .any l.toArray (only Q) S fuel (listed.setIfInBounds i true) a' w' → K a' w') → wpList P l.toArray (only fun _ => K) (pick fs1 l) a w)
    (h2 : ∀ K : Act → World → Prop, (∀ a' w', S w' → wpAnyH P .any l.toArray (only Q) S fuel (listed.setIfInBounds j true) a' w' → K a' w') → wpList P l.toArray (only fun _ => K) (pick fs2 l) a w) : wpAnyH P .any l.toArray (only Q) S F listed a w := by
  subst hF
  refine wpAnyH_all hr (by simp) fun m hm => ?_
  simp only [List.mem_cons, List.not_mem_nil, or_false] at hm
  rcases hm with rfl | rfl
  · have h0 := h1 _ (fun _ _ hs h => (⟨hs, h⟩ : _ ∧ _))
    rw [ho1] at h0
    have hi' : l.toArray[m]? = some o1 := by simpa using hi
    unfold wpOp
    simp only [hi']
    unfold wpList at h0
    split
    · rename_i hw
      rw [if_pos hw] at h0
      rcases h0 with h0 | ⟨_, h0⟩
      · exact .inl (wp_only (fun a w h => h.2) h0)
      · exact absurd h0 (no_out _)
    · rename_i hw
      rw [if_neg hw] at h0
      exact h0.2
  · have h0 := h2 _ (fun _ _ hs h => (⟨hs, h⟩ : _ ∧ _))
    rw [ho2] at h0
    have hi' : l.toArray[m]? = some o2 := by simpa using hj
    unfold wpOp
    simp only [hi']
    unfold wpList at h0
    split
    · rename_i hw
      rw [if_pos hw] at h0
      rcases h0 with h0 | ⟨_, h0⟩
      · exact .inl (wp_only (fun a w h => h.2) h0)
      · exact absurd h0 (no_out _)
    · rename_i hw
      rw [if_neg hw] at h0
      exact h0.2
end Go.Proofs.Ytialefdojeddjaa.MixH
namespace Go.Proofs.Ytialefdojeddjaa
open Go.RowKit Go.Maps

def rtk (c : CF) (r : RE) : Option RE := if dueB c r.n then (if (roldN c r.n).tr < c.tr then some ⟨{ roldN c r.n with ag := 0, tr := (roldN c r.n).tr + 1 }, r.la, r.lc⟩ else none) else some ⟨roldN c r.n, r.la, r.lc⟩
def rak (c : CF) (r : RE) : Option AK := if dueB c r.n then (if (roldN c r.n).tr < c.tr then some ⟨r.n.k, r.n.m, (roldN c r.n).tr + 1⟩ else none) else none
def rlo (c : CF) (r : RE) : List Int := if dueB c r.n then (if (roldN c r.n).tr < c.tr then [] else r.n.ln) else []
theorem rold_k (c : CF) (n : EN) : (roldN c n).k = n.k ∧ (roldN c n).m = n.m ∧ (roldN c n).ln = n.ln ∧ (roldN c n).tr = n.tr := by unfold roldN; split <;> exact ⟨rfl, rfl, rfl, rfl⟩
theorem due_rold (c : CF) (n : EN) : (((roldN c n).st == 1 || (roldN c n).st == 4) && (roldN c n).ag == c.ev) = dueB c n := by
  unfold roldN dueB
  split
  · rename_i h
    rw [h.1]
    rfl
  · rfl
theorem rtk_snoc {c : CF} {R : List RE} {i : Nat} {e : RE} (h : R[i]? = some e) : (R.take (i + 1)).filterMap (rtk c) = (R.take i).filterMap (rtk c) ++ (rtk c e).toList ∧ (R.take (i + 1)).filterMap (rak c) = (R.take i).filterMap (rak c) ++ (rak c e).toList ∧ (R.take (i + 1)).flatMap (rlo c) = (R.take i).flatMap (rlo c) ++ rlo c e := by
  have e1 : R.take (i + 1) = R.take i ++ [e] := by rw [List.take_add_one, h]; rfl
  rw [e1, List.filterMap_append, List.filterMap_append, List.flatMap_append]
  refine ⟨?_, ?_, by simp⟩
  · cases h1 : rtk c e <;> simp [h1]
  · cases h1 : rak c e <;> simp [h1]
theorem rtk_len (c : CF) (L : List RE) : (L.filterMap (rtk c)).length ≤ L.length ∧ (L.filterMap (rak c)).length ≤ L.length := ⟨List.length_filterMap_le _ _, List.length_filterMap_le _ _⟩
theorem rlo_len {c : CF} : ∀ {L : List RE}, (∀ e ∈ L, e.n.ln.length ≤ 64) → (L.flatMap (rlo c)).length ≤ L.length * 64
  | [], _ => by simp
  | e :: L, h => by
    have h1 := rlo_len (c := c) (L := L) (fun a ha => h a (List.mem_cons_of_mem _ ha))
    have h2 := h e (by simp)
    rw [List.flatMap_cons, List.length_append, List.length_cons, Nat.add_mul]
    have h3 : (rlo c e).length ≤ 64 := by
      unfold rlo
      split
      · split
        · simp
        · exact h2
      · simp
    omega
theorem rtk_la {c : CF} {r y : RE} (h : rtk c r = some y) : y.la = r.la ∧ y.n.ln = r.n.ln := by
  unfold rtk at h
  have h0 := (rold_k c r.n).2.2.1
  split at h
  · split at h
    · cases h; exact ⟨rfl, h0⟩
    · cases h
  · cases h; exact ⟨rfl, h0⟩
/-- under what holds of every entry the two tick alike -/
theorem old_rold {c : CF} {n : EN} (h : N2 n) : oldN c n = roldN c n := oldN_same h
theorem rtk_N {c : CF} {r : RE} (h : N2 r.n) : (rtk c r).map (fun y => y.n) = tickN c r.n := by
  unfold rtk tickN
  rw [old_rold h]
  split
  · split <;> rfl
  · rfl
theorem rak_N {c : CF} {r : RE} (h : N2 r.n) : rak c r = askN c r.n := by
  unfold rak askN
  rw [old_rold h, (rold_k c r.n).2.1]
theorem rlo_N {c : CF} {r : RE} (h : N2 r.n) : rlo c r = lostN c r.n := by
  unfold rlo lostN
  rw [old_rold h, (rold_k c r.n).2.2.1]
theorem rtk_all {c : CF} : ∀ {L : List RE}, (∀ e ∈ L, N2 e.n) → NS (L.filterMap (rtk c)) = (NS L).filterMap (tickN c) ∧ L.filterMap (rak c) = (NS L).filterMap (askN c) ∧ L.flatMap (rlo c) = (NS L).flatMap (lostN c)
  | [], _ => ⟨rfl, rfl, rfl⟩
  | e :: L, h => by
    obtain ⟨h1, h2, h3⟩ := rtk_all (c := c) (L := L) (fun a ha => h a (List.mem_cons_of_mem _ ha))
    have he := h e (by simp)
    refine ⟨?_, ?_, ?_⟩
    · have h4 := rtk_N (c := c) he
      rw [show NS (e :: L) = e.n :: NS L from rfl]
      cases hr : rtk c e with
      | none => rw [hr] at h4; rw [List.filterMap_cons_none hr, List.filterMap_cons_none h4.symm]; exact h1
      | some y => rw [hr] at h4; rw [List.filterMap_cons_some hr, List.filterMap_cons_some h4.symm, ← h1]; rfl
    · have h4 := rak_N (c := c) he
      rw [show NS (e :: L) = e.n :: NS L from rfl]
      cases hr : rak c e with
      | none => rw [hr] at h4; rw [List.filterMap_cons_none hr, List.filterMap_cons_none h4.symm]; exact h2
      | some y => rw [hr] at h4; rw [List.filterMap_cons_some hr, List.filterMap_cons_some h4.symm, ← h2]
    · rw [show NS (e :: L) = e.n :: NS L from rfl, List.flatMap_cons, List.flatMap_cons, h3, rlo_N he]
/-- Tick under way: the cache's boxes, the three lists that grow -/
structure TK (w : World) (B : Nat) (rc : RC) (vl : Value) (L : List RE) (va : Value) (K : List AK) (vo : Value) (O : List Int) (A : World) : Prop where
  c : RchAt A B rc
  r : RchAt A (B + 1) rcz
  bel : Below w.heap.size w A
  l : EL A (B + 2) vl L
  a : AL A (B + 2) va K
  o : IL A (B + 2) vo O
  sz : B + 2 ≤ A.heap.size
section
variable {w : World} {B : Nat} {rc : RC} {vl : Value} {L : List RE} {va : Value} {K : List AK} {vo : Value} {O : List Int} {A A' : World}
theorem TK.below (h : TK w B rc vl L va K vo O A) (b : Below A.heap.size A A') : TK w B rc vl L va K vo O A' := ⟨h.c.below b, h.r.below b, bthen h.bel b, h.l.below b, h.a.below b, IL.below h.o b, Nat.le_trans h.sz b.size⟩
/-- one block behind the boxes is written that none of the lists lies in -/
theorem TK.ch {D : Nat} (h : TK w B rc vl L va K vo O A) (hB : w.heap.size = B) (k : Ch (fun q => q = D) A A') (h1 : B + 2 ≤ D) (h2 : ∀ g, vl.ownBlock = some g → g ≠ D) (h3 : ∀ g, va.ownBlock = some g → g ≠ D) (h4 : ∀ g, vo.ownBlock = some g → g ≠ D) : TK w B rc vl L va K vo O A' :=
  ⟨h.c.ch k (by omega), h.r.ch k (by omega), h.bel.trans (k.below (fun q e => by have e' : q = D := e; omega) h.bel.size), h.l.ch k h2, h.a.ch k h3, IL.ch h.o k h4, Nat.le_trans h.sz k.size⟩
theorem kind_ne {A : World} {g D : Nat} {c1 c2 : Array Value} {t1 t2 : TypeId} (h1 : A.heap[g]? = some (.cells c1 t1 (0, 0))) (h2 : A.heap[D]? = some (.cells c2 t2 (0, 0))) (ht : t1 ≠ t2) : g ≠ D := fun e => by
  rw [e, h2] at h1
  simp only [Option.some.injEq, Obj.cells.injEq] at h1
  exact ht h1.2.1.symm
/-- the list of entries grew -/
theorem TK.grewL {vl' : Value} {L' : List RE} (h : TK w B rc vl L va K vo O A) (hB : w.heap.size = B) (g : A.grownBy A' vl.ownBlock) (hl : EL A' (B + 2) vl' L') : TK w B rc vl' L' va K vo O A' := by
  have k : Ch (fun q => vl.ownBlock = some q) A A' := Ch.ofGrown g
  have h1 : ∀ q, vl.ownBlock = some q → B + 2 ≤ q := fun q hq => (h.l.cells q hq).1
  refine ⟨h.c.ch k (fun s => by have := h1 _ s; omega), h.r.ch k (fun s => by have := h1 _ s; omega), h.bel.trans (k.below (fun q s => by have := h1 _ s; omega) h.bel.size), hl, h.a.ch k (fun q hq s => ?_), IL.ch h.o k (fun q hq s => ?_), Nat.le_trans h.sz k.size⟩
  · obtain ⟨_, _, c1, e1⟩ := h.l.cells q s
    obtain ⟨_, _, c2, e2⟩ := h.a.cells q hq
    exact kind_ne e1 e2 (by decide) rfl
  · obtain ⟨_, _, c1, e1⟩ := h.l.cells q s
    obtain ⟨_, _, c2, e2⟩ := IL.cells h.o q hq
    exact kind_ne e1 e2 (by decide) rfl
theorem TK.grewA {va' : Value} {K' : List AK} (h : TK w B rc vl L va K vo O A) (hB : w.heap.size = B) (g : A.grownBy A' va.ownBlock) (hl : AL A' (B + 2) va' K') : TK w B rc vl L va' K' vo O A' := by
  have k : Ch (fun q => va.ownBlock = some q) A A' := Ch.ofGrown g
  have h1 : ∀ q, va.ownBlock = some q → B + 2 ≤ q := fun q hq => (h.a.cells q hq).1
  refine ⟨h.c.ch k (fun s => by have := h1 _ s; omega), h.r.ch k (fun s => by have := h1 _ s; omega), h.bel.trans (k.below (fun q s => by have := h1 _ s; omega) h.bel.size), h.l.ch k (fun q hq s => ?_), hl, IL.ch h.o k (fun q hq s => ?_), Nat.le_trans h.sz k.size⟩
  · obtain ⟨_, _, c1, e1⟩ := h.a.cells q s
    obtain ⟨_, _, c2, e2⟩ := h.l.cells q hq
    exact kind_ne e1 e2 (by decide) rfl
  · obtain ⟨_, _, c1, e1⟩ := h.a.cells q s
    obtain ⟨_, _, c2, e2⟩ := IL.cells h.o q hq
    exact kind_ne e1 e2 (by decide) rfl
theorem TK.grewO {vo' : Value} {O' : List Int} (h : TK w B rc vl L va K vo O A) (hB : w.heap.size = B) (g : A.grownBy A' vo.ownBlock) (hl : IL A' (B + 2) vo' O') : TK w B rc vl L va K vo' O' A' := by
  have k : Ch (fun q => vo.ownBlock = some q) A A' := Ch.ofGrown g
  have h1 : ∀ q, vo.ownBlock = some q → B + 2 ≤ q := fun q hq => (IL.cells h.o q hq).1
  refine ⟨h.c.ch k (fun s => by have := h1 _ s; omega), h.r.ch k (fun s => by have := h1 _ s; omega), h.bel.trans (k.below (fun q s => by have := h1 _ s; omega) h.bel.size), h.l.ch k (fun q hq s => ?_), h.a.ch k (fun q hq s => ?_), hl, Nat.le_trans h.sz k.size⟩
  · obtain ⟨_, _, c1, e1⟩ := IL.cells h.o q s
    obtain ⟨_, _, c2, e2⟩ := h.l.cells q hq
    exact kind_ne e1 e2 (by decide) rfl
  · obtain ⟨_, _, c1, e1⟩ := IL.cells h.o q s
    obtain ⟨_, _, c2, e2⟩ := h.a.cells q hq
    exact kind_ne e1 e2 (by decide) rfl
/-- a box of an entry stays where a list of another kind grows -/
theorem ren_grown {v : Value} {D : Nat} {r : RE} {ty : TypeId} (g : A.grownBy A' v.ownBlock) (h : RenAt A D r) (hk : ∀ q, v.ownBlock = some q → ∃ c, A.heap[q]? = some (.cells c ty (0, 0))) (ht : ty ≠ 163) : RenAt A' D r :=
  h.ch (Ch.ofGrown g) (fun s => by obtain ⟨c, e⟩ := hk D s; exact kind_ne e h ht rfl)
end
theorem wpList_build_ak {ops : Array Oper} {rest : List Oper} {o : Oper} {a : Act} {w : World} {Q : Exit → Act → World → Prop} (y0 y1 y2 y3 : Operand) (ho : o.op = .build 114 #[(0, y0), (1, y1), (2, y2), (3, y3)]) (v : AK) (h0 : a.eval y0 = .int .i64 v.k.pt) (h1 : a.eval y1 = .agg (ipCells v.k.V v.k.x)) (h2 : a.eval y2 = .agg (macC v.m)) (h3 : a.eval y3 = .int .i64 v.ty) (hw : Region.wanted o (yielded ops a.tmps) = true)
    (h : wpList Try.prog ops Q rest (a.put o.dst (.agg (akC v))) w) : wpList Try.prog ops Q (o :: rest) a w := by
  refine wpList_step fun K hK => ?_
  rw [if_pos hw]
  unfold Oper.wp execOp
  simp only [ho, Sem.run_bind, List.map_toArray, List.map_cons, List.map_nil, h0, h1, h2, h3, run_buildak v w, Result.andThen_ok]
  exact hK _ _ h
theorem RenAt.ipR {w : World} {O : Nat} {r : RE} (h : RenAt w O r) : w.rangeAt O 1 (ipCells r.n.k.V r.n.k.x).toList := by
  have e := RenAt.range h 1 17
  exact e
theorem RenAt.macR {w : World} {O : Nat} {r : RE} (h : RenAt w O r) : w.rangeAt O 18 (macC r.n.m).toList := by
  have e := RenAt.range h 18 6
  exact e
end Go.Proofs.Ytialefdojeddjaa
