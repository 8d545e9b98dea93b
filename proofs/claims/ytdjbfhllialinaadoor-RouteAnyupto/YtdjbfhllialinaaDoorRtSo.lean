/-
  Layer 14: sorted: the routes of the table, collected in whatever order the map gives them, then sorted.
-/
import Derived.Test.YtdjbfhllialinaaDoorRtOr
import Derived.Maps.RangeWalk
namespace Go.Proofs.YtdjbfhllialinaaDoor
open Go.RowKit Go.Maps

/-- the collecting loop's state: L is what has come, left what is still to come -/
structure CL (w : World) (t M : Nat) (D : DataW Value) (R : List RV) (r : Nat) (v : Value) (L : List RV) (left : Lit → Bool) (cnt : Nat) (A : World) : Prop where
  rg : A.ranges Tryd.prog 27 anyE M r R.length D left cnt
  tab : TabAt A t M D R
  li : RL A w.heap.size v L
  ne : ∀ g, v.ownBlock = some g → g ≠ r
  rl : w.heap.size ≤ r
  old : t < w.heap.size ∧ M < w.heap.size
  sub : ∀ s ∈ L, s ∈ R
  dj : L.Pairwise (fun a b => eqP a.p b.p = false)
  come : ∀ s ∈ R, ∀ kl, keyOf Tryd.prog 27 (.agg (pfC s.p)) = some kl → left kl = false → s ∈ L
  fresh : ∀ s ∈ L, ∀ kl, keyOf Tryd.prog 27 (.agg (pfC s.p)) = some kl → left kl = false
  lh : ∀ kl, left kl = true → Maps.has D kl = true
  bel : Below w.heap.size w A
  sh : ∃ g, v.ownBlock = some g
theorem len_sub {L R : List RV} (dj : L.Pairwise (fun a b => eqP a.p b.p = false)) (h : ∀ s ∈ L, s ∈ R) : L.length ≤ R.length := by
  induction L generalizing R with
  | nil => simp
  | cons a L ih =>
    obtain ⟨d1, d2⟩ := List.pairwise_cons.1 dj
    obtain ⟨R1, R2, rfl⟩ := List.append_of_mem (h a (by simp))
    have := ih (R := R1 ++ R2) d2 (fun s hs => by
      have h1 := h s (List.mem_cons_of_mem _ hs)
      rcases List.mem_append.1 h1 with e | e
      · exact List.mem_append_left _ e
      · rcases List.mem_cons.1 e with e | e
        · subst e
          have := d1 s hs
          rw [eqP_refl] at this
          cases this
        · exact List.mem_append_right _ e)
    simp at this ⊢
    omega
theorem CL.below {w : World} {t M : Nat} {D : DataW Value} {R : List RV} {r : Nat} {v : Value} {L : List RV} {left : Lit → Bool} {cnt : Nat} {A A' : World} (h : CL w t M D R r v L left cnt A) (b : Below A.heap.size A A') : CL w t M D R r v L left cnt A' :=
  { h with rg := h.rg.kept (row := none) ⟨b.os, b.tape, b.output, b.size, fun k hk _ => b.block k hk⟩ (by simp) (by simp), tab := h.tab.below b, li := h.li.below b, bel := bthen h.bel b }
/-- an entry has come: s -/
theorem CL.next {w : World} {t M : Nat} {D : DataW Value} {R : List RV} {r : Nat} {v : Value} {L : List RV} {left : Lit → Bool} {cnt cnt' : Nat} {A A' : World} {kl : Lit} {c : Value} {y : DataW Value × List MemPlace} (h : CL w t M D R r v L left cnt A) (hl : left kl = true) (hR : anyE c = some y) (hat : ∀ zd, D.atKey kl zd = y.1) (hrg : A'.ranges Tryd.prog 27 anyE M r R.length D (fun z => left z && !z.sameKey kl) cnt') (hg : A.grownBy A' (some r)) :
    ∃ s, c = .agg (rtC s) ∧ s ∈ R ∧ keyOf Tryd.prog 27 (.agg (pfC s.p)) = some kl ∧ s ∉ L ∧ A'.ranges Tryd.prog 27 anyE M r R.length D (fun z => left z && !z.sameKey kl) cnt' ∧ TabAt A' t M D R ∧ RL A' w.heap.size v L ∧ Below w.heap.size w A' := by
  obtain ⟨s, hs, hk⟩ := h.tab.ks kl (h.lh kl hl)
  have h1 := (h.tab.hs s.p kl hk).2
  rw [fnd_mem h.tab.dj hs (eqP_refl _), hat] at h1
  have hy : y = (.held c, []) := by
    have : some ((DataW.held c : DataW Value), ([] : List MemPlace)) = some y := hR
    exact (Option.some.inj this).symm
  rw [hy] at h1
  have h2 : (DataW.held c : DataW Value) = .held (.agg (rtC s)) := h1
  have k := Ch.ofGrown hg
  have hold := h.old
  have hrl := h.rl
  refine ⟨s, by simpa using h2, hs, hk, fun hm => ?_, hrg, h.tab.ch k (fun e => by have e' : some r = some t := e; simp at e'; omega) (fun e => by have e' : some r = some M := e; simp at e'; omega), h.li.ch k (fun g hgo e => by have e' : some r = some g := e; simp at e'; exact h.ne g hgo e'.symm), h.bel.trans (k.below (fun q e => by have e' : some r = some q := e; simp at e'; omega) h.bel.size)⟩
  have := h.fresh s hm kl hk
  rw [hl] at this
  cases this
theorem CL.put {w : World} {t M : Nat} {D : DataW Value} {R : List RV} {r : Nat} {v v' : Value} {L : List RV} {left : Lit → Bool} {cnt cnt' : Nat} {A B B' : World} {kl : Lit} {s : RV} (h : CL w t M D R r v L left cnt A) (hl : left kl = true) (hs : s ∈ R) (hk : keyOf Tryd.prog 27 (.agg (pfC s.p)) = some kl) (hn : s ∉ L)
    (hrg : B.ranges Tryd.prog 27 anyE M r R.length D (fun z => left z && !z.sameKey kl) cnt') (htab : TabAt B t M D R) (hli : RL B w.heap.size v L) (hbel : Below w.heap.size w B) (hg : B.grownBy B' v.ownBlock) (hli' : RL B' w.heap.size v' (L ++ [s])) (hv : v'.ownBlock = v.ownBlock ∨ v'.ownBlock = some B.heap.size) : CL w t M D R r v' (L ++ [s]) (fun z => left z && !z.sameKey kl) cnt' B' := by
  have k := Ch.ofGrown hg
  have hcell := hli.cells
  have hold := h.old
  have hne : ∀ g, v.ownBlock = some g → g ≠ r := h.ne
  have hrlt := hrg.lt
  refine ⟨hrg.kept hg (fun e => ?_) (fun e => hne r e.symm rfl), htab.ch k (fun e => ?_) (fun e => ?_), hli', fun g hg' => ?_, h.rl, hold, fun q hq => ?_, ?_, fun q hq kq hkq hlq => ?_, fun q hq kq hkq => ?_, fun kq hkq => ?_, hbel.trans (k.below (fun q e => (hcell q e).1) hbel.size), ?_⟩
  · have := (hcell M e.symm).1; omega
  · have := (hcell t e).1; omega
  · have := (hcell M e).1; omega
  · rcases hv with e | e
    · exact hne g (by rw [← e]; exact hg')
    · rw [e] at hg'; cases hg'; omega
  · rcases List.mem_append.1 hq with e | e
    · exact h.sub q e
    · simp only [List.mem_singleton] at e; subst e; exact hs
  · rw [List.pairwise_append]
    refine ⟨h.dj, by simp, fun a ha b hb => ?_⟩
    simp only [List.mem_singleton] at hb
    subst hb
    rw [Bool.eq_false_iff]
    intro e
    have h1 := fnd_mem h.tab.dj (h.sub a ha) e
    have h2 := fnd_mem h.tab.dj hs (eqP_refl b.p)
    rw [h1] at h2
    have : a = b := Option.some.inj h2
    exact hn (this ▸ ha)
  · simp only [Bool.and_eq_false_iff, Bool.not_eq_false'] at hlq
    rcases hlq with e | e
    · exact List.mem_append_left _ (h.come q hq kq hkq e)
    · have e1 : kq = kl := WideAt.sameKey_eq e
      subst e1
      have e2 := lawR.inj hkq hk
      have e3 : pfC q.p = pfC s.p := by simpa using e2
      have h1 := fnd_mem h.tab.dj hq ((eqP_iff _ _).2 e3)
      have h2 := fnd_mem h.tab.dj hs (eqP_refl s.p)
      rw [h1] at h2
      have : q = s := Option.some.inj h2
      rw [this]
      simp
  · rcases List.mem_append.1 hq with e | e
    · rw [h.fresh q e kq hkq]; rfl
    · simp only [List.mem_singleton] at e
      subst e
      have e1 : kq = kl := Option.some.inj (hkq.symm.trans hk)
      rw [e1, WideAt.sameKey_self (key_lit hk)]
      simp
  · simp only [Bool.and_eq_true] at hkq
    exact h.lh kq hkq.1
  · rcases hv with e | e
    · rw [e]; exact h.sh
    · exact ⟨_, e⟩
theorem CL.form {w : World} {t M : Nat} {D : DataW Value} {R : List RV} {r : Nat} {v : Value} {L : List RV} {left : Lit → Bool} {cnt : Nat} {A : World} (h : CL w t M D R r v L left cnt A) : ∃ g c, v = .slice (some ⟨g, 0, none⟩) L.length c := by
  obtain ⟨g, hg⟩ := h.sh
  rcases h.li.2 with ⟨rfl, _⟩ | ⟨g', cap, cur, rfl, _⟩
  · simp [Value.ownBlock] at hg
  · exact ⟨g', cap, rfl⟩
end Go.Proofs.YtdjbfhllialinaaDoor
