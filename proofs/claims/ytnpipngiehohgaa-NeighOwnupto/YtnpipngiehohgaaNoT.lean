/-
  Layer 15: what a tick asks and loses, off the numbers in their order; two caches in the same state tell the same (NrP3, NrP4 without the reference).
-/
import Derived.Test.YtnpipngiehohgaaNoP
namespace Go.Proofs.Ytnpipngiehohgaa
open Go.RowKit Go.Maps
namespace No
theorem sortedK_eq : ∀ (xs ys : List KV), xs.Pairwise (fun a b => 0 ≤ ordV b a) → ys.Pairwise lt3 → xs.Perm ys → xs = ys
  | [], ys, _, _, h => by rw [List.nil_perm.1 h]
  | a :: xs, [], _, _, h => by have := h.length_eq; simp at this
  | a :: xs, b :: ys, h1, h2, h => by
    obtain ⟨a1, a2⟩ := List.pairwise_cons.1 h1
    obtain ⟨b1, b2⟩ := List.pairwise_cons.1 h2
    have hab : a = b := by
      rcases List.mem_cons.1 (h.mem_iff.1 (by simp : a ∈ a :: xs)) with e | e
      · exact e
      · rcases List.mem_cons.1 (h.mem_iff.2 (by simp : b ∈ b :: ys)) with e' | e'
        · exact e'.symm
        · have h3 := (ord_lt b a).2 (b1 a e)
          have h4 := a1 b e'
          omega
    subst hab
    rw [sortedK_eq xs ys a2 b2 (List.Perm.cons_inv h)]
/-- the due ones, in the list's order -/
theorem due_same {c : CF} {E : List EV} {N : List EN} (h : Rep E N) {Kd : List KV} (hp : Kd.Perm (dueL c E)) (hs : Kd.Pairwise (fun a b => 0 ≤ ordV b a)) : Kd = (N.filter (fun n => dueB c n)).map (fun n => n.k) := by
  refine sortedK_eq _ _ hs ?_ (hp.trans ?_)
  · exact List.pairwise_map.2 (h.2.sublist List.filter_sublist)
  · unfold dueL
    have e1 : (E.filter (fun e => dueB c e.n)).map (fun e => e.n.k) = ((E.map (fun e => e.n)).filter (fun n => dueB c n)).map (fun n => n.k) := by
      rw [List.filter_map, List.map_map]
      rfl
    rw [e1]
    exact ((h.1.filter _).map _).symm
def askN (c : CF) (n : EN) : Option AK := if dueB c n then (if (oldN c n).tr < c.tr then some ⟨n.k, (oldN c n).m, (oldN c n).tr + 1⟩ else none) else none
def lostN (c : CF) (n : EN) : List Int := if dueB c n then (if (oldN c n).tr < c.tr then [] else (oldN c n).ln) else []
theorem fE_ag1 {c : CF} {E : List EV} (k : KV) : fE (E.map (ag1 c)) k = (fE E k).map (ag1 c) := by
  unfold fE
  rw [List.find?_map]
  congr 2
  funext e
  show eqP (oldN c e.n).k k = eqP e.n.k k
  rw [oldN_k]
theorem fE_rep {c : CF} {E : List EV} {N : List EN} (d : Dj E) (h : Rep E N) {n : EN} (hn : n ∈ N) : ∃ e ∈ E, e.n = n ∧ fE (E.map (ag1 c)) n.k = some (ag1 c e) := by
  obtain ⟨e, he, rfl⟩ := h.mem.1 hn
  exact ⟨e, he, rfl, by rw [fE_ag1, fE_mem d he (eqP_refl _)]; rfl⟩
theorem filterMap_same {α β : Type} {f g : α → Option β} : ∀ {l : List α}, (∀ a ∈ l, f a = g a) → l.filterMap f = l.filterMap g
  | [], _ => rfl
  | a :: l, h => by rw [List.filterMap_cons, List.filterMap_cons, h a (by simp), filterMap_same (fun b hb => h b (List.mem_cons_of_mem _ hb))]
theorem asks_same {c : CF} {E : List EV} {N : List EN} (d : Dj E) (h : Rep E N) {Kd : List KV} (hp : Kd.Perm (dueL c E)) (hs : Kd.Pairwise (fun a b => 0 ≤ ordV b a)) : asksL c (E.map (ag1 c)) Kd = N.filterMap (askN c) := by
  rw [due_same h hp hs]
  unfold asksL
  rw [List.filterMap_map, List.filterMap_filter]
  apply filterMap_same
  intro n hn
  obtain ⟨e, he, rfl, hf⟩ := fE_rep (c := c) d h hn
  unfold askN
  by_cases hd : dueB c e.n = true
  · rw [if_pos hd, if_pos hd]
    show askOf c (E.map (ag1 c)) e.n.k = _
    unfold askOf
    rw [hf]
    rfl
  · rw [if_neg hd, if_neg hd]
theorem flatMap_if {α β : Type} (p : α → Bool) (f : α → List β) : ∀ l : List α, (l.filter p).flatMap f = l.flatMap (fun a => if p a then f a else [])
  | [] => rfl
  | a :: l => by
    by_cases h : p a = true
    · rw [List.filter_cons_of_pos h, List.flatMap_cons, List.flatMap_cons, if_pos h, flatMap_if p f l]
    · rw [List.filter_cons_of_neg h, List.flatMap_cons, if_neg h, flatMap_if p f l, List.nil_append]
theorem flatMap_same {α β : Type} {f g : α → List β} : ∀ {l : List α}, (∀ a ∈ l, f a = g a) → l.flatMap f = l.flatMap g
  | [], _ => rfl
  | a :: l, h => by rw [List.flatMap_cons, List.flatMap_cons, h a (by simp), flatMap_same (fun b hb => h b (List.mem_cons_of_mem _ hb))]
theorem lost_same {c : CF} {E : List EV} {N : List EN} (d : Dj E) (h : Rep E N) {Kd : List KV} (hp : Kd.Perm (dueL c E)) (hs : Kd.Pairwise (fun a b => 0 ≤ ordV b a)) : lostL c (E.map (ag1 c)) Kd = N.flatMap (lostN c) := by
  rw [due_same h hp hs]
  unfold lostL
  rw [List.flatMap_map, flatMap_if]
  apply flatMap_same
  intro n hn
  obtain ⟨e, he, rfl, hf⟩ := fE_rep (c := c) d h hn
  unfold lostN
  by_cases hd : dueB c e.n = true
  · rw [if_pos hd, if_pos hd]
    unfold lostOf
    rw [hf]
    rfl
  · rw [if_neg hd, if_neg hd]
theorem tick_same {c : CF} {E F : List EV} {N : List EN} (h : Al E F) (d1 : Dj E) (d2 : Dj F) (r : Rep E N) {K1 K2 : List KV} (p1 : K1.Perm (dueL c E)) (s1 : K1.Pairwise (fun a b => 0 ≤ ordV b a)) (p2 : K2.Perm (dueL c F)) (s2 : K2.Pairwise (fun a b => 0 ≤ ordV b a)) :
    asksL c (E.map (ag1 c)) K1 = asksL c (F.map (ag1 c)) K2 ∧ lostL c (E.map (ag1 c)) K1 = lostL c (F.map (ag1 c)) K2 := by
  have r2 := h.rep r
  exact ⟨(asks_same d1 r p1 s1).trans (asks_same d2 r2 p2 s2).symm, (lost_same d1 r p1 s1).trans (lost_same d2 r2 p2 s2).symm⟩
end No
end Go.Proofs.Ytnpipngiehohgaa
