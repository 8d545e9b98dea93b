/-
  Layer 15: two caches that are asked the same stay in the same state, in numbers, and answer alike (without the reference).
-/
import Derived.Test.YtnpipngiehohgaaNrP2
namespace Go.Proofs.Ytnpipngiehohgaa
open Go.RowKit Go.Maps
namespace No

/-- two caches in the same state, in numbers -/
def Al (E F : List EV) : Prop := (E.map (fun e => e.n)).Perm (F.map (fun e => e.n))
theorem Al.symm {E F : List EV} (h : Al E F) : Al F E := List.Perm.symm h
theorem Al.len {E F : List EV} (h : Al E F) : E.length = F.length := by
  have := h.length_eq
  simpa using this
theorem Al.of {E F : List EV} (h : Al E F) {e : EV} (he : e ∈ E) : ∃ a ∈ F, a.n = e.n := List.mem_map.1 (h.mem_iff.1 (List.mem_map_of_mem he))
theorem Al.rep {E F : List EV} {N : List EN} (h : Al E F) (r : Rep E N) : Rep F N := ⟨r.1.trans h, r.2⟩
theorem Al.fno {E F : List EV} (h : Al E F) {k : KV} (hf : fE E k = none) : fE F k = none := by
  unfold fE at hf ⊢
  rw [List.find?_eq_none] at hf ⊢
  intro a ha
  obtain ⟨e, he, e2⟩ := h.symm.of ha
  rw [← e2]
  exact hf e he
theorem Al.fso {E F : List EV} (h : Al E F) (d : Dj F) {k : KV} {e : EV} (hf : fE E k = some e) : ∃ a, fE F k = some a ∧ a.n = e.n := by
  obtain ⟨he, hk⟩ := fE_some hf
  obtain ⟨a, ha, e2⟩ := h.of he
  exact ⟨a, fE_mem d ha (by rw [e2]; exact hk), e2⟩
theorem upd_n (E : List EV) (k : KV) (e : EV) : (updE E k e).map (fun e => e.n) = (E.map (fun e => e.n)).map (fun a => if eqP a.k k then e.n else a) := by
  unfold updE
  rw [List.map_map, List.map_map]
  congr 1
  funext a
  show (if eqP a.n.k k then e else a).n = if eqP a.n.k k then e.n else a.n
  split <;> rfl
theorem Al.upd {E F : List EV} (h : Al E F) {k : KV} {e f : EV} (he : e.n = f.n) : Al (updE E k e) (updE F k f) := by
  unfold Al
  rw [upd_n, upd_n, he]
  exact h.map _
theorem del_n (E : List EV) (k : KV) : (delE E k).map (fun e => e.n) = (E.map (fun e => e.n)).filter (fun a => !(eqP a.k k)) := by
  unfold delE
  rw [List.filter_map]
  rfl
theorem Al.del {E F : List EV} (h : Al E F) {k q : KV} (hk : eqP k q = true) : Al (delE E k) (delE F q) := by
  unfold Al
  rw [del_n, del_n]
  have e : (fun a : EN => !(eqP a.k k)) = fun a => !(eqP a.k q) := by
    funext a
    rw [eqP_comm a.k k, eqP_comm a.k q, eqP_left hk]
  rw [e]
  exact h.filter _
theorem Al.snoc {E F : List EV} (h : Al E F) {e f : EV} (he : e.n = f.n) : Al (E ++ [e]) (F ++ [f]) := by
  unfold Al
  rw [List.map_append, List.map_append, List.map_singleton, List.map_singleton, he]
  exact h.append_right _
theorem Al.tick {E F : List EV} (h : Al E F) (c : CF) : Al (E.filterMap (tickE c)) (F.filterMap (tickE c)) := by
  have key : ∀ G : List EV, (G.filterMap (tickE c)).map (fun e => e.n) = (G.map (fun e => e.n)).filterMap (tickN c) := fun G => by
    rw [List.map_filterMap, List.filterMap_map]
    congr 1
    funext e
    exact tickE_N c e
  unfold Al
  rw [key, key]
  exact h.filterMap _
theorem Al.old_no {E F : List EV} (h : Al E F) {s : EV} (o1 : OldOf E none) (o2 : OldOf F (some s)) : False := by
  obtain ⟨a, ha, e⟩ := h.symm.of o2.1
  exact o1 a ha (by rw [e]; exact o2.2.1)
theorem Al.old {E F : List EV} (h : Al E F) (d : Dj F) (wf : ∀ e ∈ F, e.n.k.Wf) {s q : EV} (o1 : OldOf E (some s)) (o2 : OldOf F (some q)) : s.n = q.n := by
  obtain ⟨a, ha, e1⟩ := h.of o1.1
  obtain ⟨b, hb, e2⟩ := h.symm.of o2.1
  have h2 := o2.2.2 a ha (by rw [e1]; exact o1.2.1)
  have h1 := o1.2.2 b hb (by rw [e2]; exact o2.2.1)
  rw [e1] at h2
  rw [e2] at h1
  have hk : eqP a.n.k q.n.k = true := by
    rw [e1]
    have wa : s.n.k.Wf := by rw [← e1]; exact wf a ha
    rcases tri s.n.k q.n.k wa (wf q o2.1) with h3 | h3 | h3
    · rcases h2 with h2 | h2
      · rcases h1 with h1 | h1 <;> omega
      · exact absurd h3 h2.2
    · rcases h1 with h1 | h1
      · rcases h2 with h2 | h2 <;> omega
      · exact absurd h3 h1.2
    · exact h3
  have f1 := fE_mem d ha hk
  have f2 := fE_mem d o2.1 (eqP_refl q.n.k)
  rw [f1] at f2
  obtain rfl := Option.some.inj f2
  exact e1.symm
theorem add_same {c : CF} {E F E' F' : List EV} (h : Al E F) (d : Dj F) (wf : ∀ e ∈ F, e.n.k.Wf) {e f : EV} (he : e.n = f.n) {er er' : Int} (h1 : AddR c E e er E') (h2 : AddR c F f er' F') : er = er' ∧ Al E' F' := by
  have hl := h.len
  rcases h1 with ⟨a1, rfl, rfl⟩ | ⟨a1, o1, rfl, rfl⟩ | ⟨a1, s, o1, rfl, rfl⟩ <;> rcases h2 with ⟨a2, rfl, rfl⟩ | ⟨a2, o2, rfl, rfl⟩ | ⟨a2, q, o2, rfl, rfl⟩
  · exact ⟨rfl, h.snoc he⟩
  · omega
  · omega
  · omega
  · exact ⟨rfl, h⟩
  · exact (h.old_no o1 o2).elim
  · omega
  · exact (h.symm.old_no o2 o1).elim
  · have e1 := h.old d wf o1 o2
    exact ⟨rfl, (h.del (by rw [e1]; exact eqP_refl _)).snoc he⟩
theorem want_same {c : CF} {E F E' F' : List EV} (h : Al E F) (d : Dj F) (wf : ∀ e ∈ F, e.n.k.Wf) {k : KV} {item : Int} {m m' : Nat → Nat} {oc oc' er er' : Int} (h1 : WantR c E k item E' m oc er) (h2 : WantR c F k item F' m' oc' er') : m = m' ∧ oc = oc' ∧ er = er' ∧ Al E' F' := by
  rcases h1 with ⟨b1, rfl, rfl, rfl, rfl⟩ | ⟨b1, h1⟩
  · rcases h2 with ⟨_, rfl, rfl, rfl, rfl⟩ | ⟨b2, _⟩
    · exact ⟨rfl, rfl, rfl, h⟩
    · rw [b1] at b2; cases b2
  · rcases h2 with ⟨b2, _⟩ | ⟨_, h2⟩
    · rw [b1] at b2; cases b2
    · rcases h1 with ⟨f1, e, en, ha, rfl, rfl⟩ | ⟨e, f1, h1⟩
      · rcases h2 with ⟨_, f, fn, ha2, rfl, rfl⟩ | ⟨f, f2, _⟩
        · obtain ⟨rfl, hA⟩ := add_same h d wf (en.trans fn.symm) ha ha2
          exact ⟨rfl, rfl, rfl, hA⟩
        · rw [h.fno f1] at f2; cases f2
      · obtain ⟨a, fa, ea⟩ := h.fso d f1
        rcases h2 with ⟨f2, _⟩ | ⟨f, f2, h2⟩
        · rw [fa] at f2; cases f2
        · rw [fa] at f2
          obtain rfl := Option.some.inj f2
          rw [← ea] at h1
          rcases h1 with ⟨s1, l1, rfl, rfl, rfl, rfl⟩ | ⟨s1, l1, ⟨lv, rfl⟩, rfl, rfl, rfl⟩ | ⟨s1, rfl, rfl, rfl, rfl⟩ | ⟨s1, s1', rfl, rfl, rfl, rfl⟩ <;> rcases h2 with ⟨s2, l2, rfl, rfl, rfl, rfl⟩ | ⟨s2, l2, ⟨lv2, rfl⟩, rfl, rfl, rfl⟩ | ⟨s2, rfl, rfl, rfl, rfl⟩ | ⟨s2, s2', rfl, rfl, rfl, rfl⟩ <;> first | exact ⟨rfl, rfl, rfl, h⟩ | exact ⟨rfl, rfl, rfl, h.upd rfl⟩ | omega
theorem learn_same {c : CF} {E F E' F' : List EV} (h : Al E F) (d : Dj F) (wf : ∀ e ∈ F, e.n.k.Wf) {k : KV} {m : Nat → Nat} {how : Int} {v v' : Value} {l l' : List Int} {er er' : Int} (h1 : LearnR c E k m how E' v l er) (h2 : LearnR c F k m how F' v' l' er') : l = l' ∧ er = er' ∧ Al E' F' := by
  rcases h1 with ⟨b1, rfl, rfl, rfl, rfl⟩ | ⟨b1, h1⟩
  · rcases h2 with ⟨_, rfl, rfl, rfl, rfl⟩ | ⟨b2, _⟩
    · exact ⟨rfl, rfl, h⟩
    · rw [b1] at b2; cases b2
  · rcases h2 with ⟨b2, _⟩ | ⟨_, h2⟩
    · rw [b1] at b2; cases b2
    · rcases h1 with ⟨f1, w1, ⟨e, en, ha⟩, rfl, rfl⟩ | ⟨f1, w1, rfl, rfl, rfl, rfl⟩ | ⟨e, f1, h1⟩
      · rcases h2 with ⟨_, _, ⟨f, fn, ha2⟩, rfl, rfl⟩ | ⟨_, w2, _⟩ | ⟨f, f2, _⟩
        · obtain ⟨rfl, hA⟩ := add_same h d wf (en.trans fn.symm) ha ha2
          exact ⟨rfl, rfl, hA⟩
        · exact absurd w1 w2
        · rw [h.fno f1] at f2; cases f2
      · rcases h2 with ⟨_, w2, _⟩ | ⟨_, _, rfl, rfl, rfl, rfl⟩ | ⟨f, f2, _⟩
        · exact absurd w2 w1
        · exact ⟨rfl, rfl, h⟩
        · rw [h.fno f1] at f2; cases f2
      · obtain ⟨a, fa, ea⟩ := h.fso d f1
        rcases h2 with ⟨f2, _⟩ | ⟨f2, _⟩ | ⟨f, f2, h2⟩
        · rw [fa] at f2; cases f2
        · rw [fa] at f2; cases f2
        · rw [fa] at f2
          obtain rfl := Option.some.inj f2
          rw [← ea] at h1
          rcases h1 with ⟨s1, rfl, rfl, rfl, rfl⟩ | ⟨s1, t1, rfl, rfl, rfl, rfl⟩ | ⟨s1, t1, rfl, rfl, rfl, rfl⟩ <;> rcases h2 with ⟨s2, rfl, rfl, rfl, rfl⟩ | ⟨s2, t2, rfl, rfl, rfl, rfl⟩ | ⟨s2, t2, rfl, rfl, rfl, rfl⟩ <;> first | exact ⟨rfl, rfl, h⟩ | exact ⟨rfl, rfl, h.upd rfl⟩ | exact absurd s1 s2 | exact absurd s2 s1 | (rw [t1] at t2; cases t2)
/-- All tells the same -/
theorem all_same {E F S T : List EV} (h : Al E F) (h1 : Srt E S) (h2 : Srt F T) : S.map (fun e => e.n) = T.map (fun e => e.n) := (h.rep h1.rep).same h2.rep
theorem wait_same {E F S : List EV} (h : Al E F) (h1 : Srt E S) : waitN E = waitN F := by rw [← h1.rep.wait, (h.rep h1.rep).wait]
end No
end Go.Proofs.Ytnpipngiehohgaa
