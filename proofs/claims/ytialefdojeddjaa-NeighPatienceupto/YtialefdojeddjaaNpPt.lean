/-
  Layer 15: a cache and the caller's book beside one another.
-/
import Derived.Test.YtialefdojeddjaaNpDue
namespace Go.Proofs.Ytialefdojeddjaa
open Go.RowKit Go.Maps

theorem LSt.base {W1 w x : World} {t M : Nat} {c : CF} {E : List EV} (h : LSt W1 t M c E x) (b : Below w.heap.size w W1) : LSt w t M c E x := ⟨h.ca, h.cf, h.ok, bthen b h.bel, fun q hq => Nat.le_trans b.size (h.out q hq)⟩
theorem BL.cap {w : World} {base : Nat} {v : Value} {L : List BV} (h : BL w base v L) : ∃ va vc, v = .slice va L.length vc ∧ BR w va L ∧ L.length ≤ vc ∧ vc ≤ 9223372036854775807 ∧ ((va = none ∧ vc = 0) ∨ ∃ g off, va = some ⟨g, off, none⟩) := by
  obtain ⟨va, vc, rfl, hBR⟩ := h.br
  rcases h.2 with ⟨e, h0⟩ | ⟨g, cap, cur, e, hb, hg, hnc, hcm, hcs, ht⟩
  · simp only [Value.slice.injEq] at e
    obtain ⟨rfl, h1, rfl⟩ := e
    exact ⟨none, 0, by rw [h1], hBR, by omega, by omega, .inl ⟨rfl, rfl⟩⟩
  · simp only [Value.slice.injEq] at e
    obtain ⟨rfl, _, rfl⟩ := e
    exact ⟨_, _, rfl, hBR, hnc, by unfold maxLen at hcm; omega, .inr ⟨g, 0, rfl⟩⟩
theorem BL.rng {A : World} {wb g n cap : Nat} {L : List BV} {j : Nat} {e : BV} (h : BL A wb (.slice (some ⟨g, 0, none⟩) n cap) L) (hr : L[j]? = some e) : A.rangeAt g (j * 21) (bvC e).toList := by
  obtain ⟨g', cap', hv, _, _, hrg⟩ := h.at j e hr
  simp only [Value.slice.injEq, Option.some.injEq, Addr.mk.injEq, and_true] at hv
  rw [hv.1]
  exact hrg
theorem BL.not {A : World} {t M b : Nat} {c : CF} {E : List EV} {v : Value} {L : List BV} (h : BL A b v L) (hc : CA A t M c E) : ∀ g, v.ownBlock = some g → ¬ CB t M E g := fun g hg => by
  obtain ⟨_, _, cc, hcc⟩ := h.cells g hg
  exact cb_apart hc hcc (by decide) (by decide) (by decide)
/-- the cache (entries Ec) and the book, which speaks of the entries Ep -/
structure PT (w : World) (t M : Nat) (d : CF) (B : Nat) (Ec Ep : List EV) (now : Int) (L : List BV) (v : Value) (X : World) : Prop where
  c : CfgAt X B d
  l : LSt w t M d Ec X
  b : BL X w.heap.size v L
  i : PInv Ep now L
section
variable {w : World} {t M : Nat} {d : CF} {B : Nat} {Ec Ep : List EV} {now : Int} {L : List BV} {v : Value} {X X' : World}
theorem PT.below (h : PT w t M d B Ec Ep now L v X) (b : Below X.heap.size X X') : PT w t M d B Ec Ep now L v X' := ⟨h.c.below b, h.l.below b, h.b.below b, h.i⟩
theorem PT.cache {E' : List EV} (h : PT w t M d B Ec Ep now L v X) (hl : LSt w t M d E' X') (k : Ch (CB t M Ec) X X') : PT w t M d B E' Ep now L v X' := ⟨h.c.ch k (h.c.not h.l.ca), hl, h.b.ch k (h.b.not h.l.ca), h.i⟩
theorem PT.inv {Ep' : List EV} {now' : Int} (h : PT w t M d B Ec Ep now L v X) (hi : PInv Ep' now' L) : PT w t M d B Ec Ep' now' L v X := ⟨h.c, h.l, h.b, hi⟩
/-- a row's cell written -/
theorem PT.set {g n cap i j : Nat} {b b' : BV} {u : Value} {Ep' : List EV} {now' : Int} (h : PT w t M d B Ec Ep now L (.slice (some ⟨g, 0, none⟩) n cap) X) (hn : L.length = n) (hb : L[i]? = some b) (hj : j < 21) (hC : (bvC b).toList.set j u = (bvC b').toList) (hi : PInv Ep' now' (L.set i b')) : PT w t M d B Ec Ep' now' (L.set i b') (.slice (some ⟨g, 0, none⟩) n cap) (X.setCell ⟨g, i * 21 + j, none⟩ u) := by
  have k : Ch (fun q => q = g) X (X.setCell ⟨g, i * 21 + j, none⟩ u) := (Ch.refl (fun q => q = g) X).set _ _ rfl
  obtain ⟨hg, _, cc, hcc⟩ := h.b.cells g rfl
  refine ⟨h.c.ch k (fun e => kind_ne' h.c hcc (by decide) e), h.l.ch k (fun q hq e => ?_) (fun q e => by have e' : q = g := e; omega), h.b.set1 hn hb hj hC, hi⟩
  have e' : q = g := e
  exact cb_apart h.l.ca hcc (by decide) (by decide) (by decide) (by rw [← e']; exact hq)
/-- two cells of a row written, one behind the other -/
theorem PT.set2 {g n cap i : Nat} {b : BV} {x y : Int} {Ep' : List EV} {now' : Int} (h : PT w t M d B Ec Ep now L (.slice (some ⟨g, 0, none⟩) n cap) X) (hn : L.length = n) (hb : L[i]? = some b) (hi : PInv Ep' now' (L.set i { b with lt := x, ct := y })) : PT w t M d B Ec Ep' now' (L.set i { b with lt := x, ct := y }) (.slice (some ⟨g, 0, none⟩) n cap) ((X.setCell ⟨g, i * 21 + 19, none⟩ (.int .i64 x)).setCell ⟨g, i * 21 + 20, none⟩ (.int .i64 y)) := by
  have k : Ch (fun q => q = g) X ((X.setCell ⟨g, i * 21 + 19, none⟩ (.int .i64 x)).setCell ⟨g, i * 21 + 20, none⟩ (.int .i64 y)) := ((Ch.refl (fun q => q = g) X).set _ _ rfl).set _ _ rfl
  obtain ⟨hg, _, cc, hcc⟩ := h.b.cells g rfl
  have hul := (List.getElem?_eq_some_iff.1 hb).1
  have h1 := h.b.set1 (b' := { b with lt := x }) (v := .int .i64 x) (j := 19) hn hb (by omega) rfl
  have h2 := h1.set1 (b := { b with lt := x }) (b' := { b with lt := x, ct := y }) (v := .int .i64 y) (j := 20) (by rw [List.length_set]; exact hn) (by rw [List.getElem?_set, if_pos rfl, if_pos hul]) (by omega) rfl
  rw [set_twice] at h2
  refine ⟨h.c.ch k (fun e => kind_ne' h.c hcc (by decide) e), h.l.ch k (fun q hq e => ?_) (fun q e => by have e' : q = g := e; omega), h2, hi⟩
  have e' : q = g := e
  exact cb_apart h.l.ca hcc (by decide) (by decide) (by decide) (by rw [← e']; exact hq)
/-- row, of the book under way -/
def PRow (w : World) (t M : Nat) (d : CF) (B : Nat) (Ec Ep : List EV) (now : Int) (n0 : Nat) (k : KV) (X : World) (r : Ending) (X' : World) : Prop :=
  ∃ (g n cap : Nat) (L1 : List BV) (j : Nat) (b : BV), r = .returned (.tuple #[.slice (some ⟨g, 0, none⟩) n cap, .int .i64 (j : Int)]) ∧ PT w t M d B Ec Ep now L1 (.slice (some ⟨g, 0, none⟩) n cap) X' ∧ L1.length = n ∧ n ≤ n0 + 1 ∧ L1[j]? = some b ∧ eqP b.k k = true ∧ Below X.heap.size X X'
theorem PT.row (h : PT w t M d B Ec Ep now L v X) {la : Option Addr} {n lc : Nat} (hv : v = .slice la n lc) (hl : n ≤ 1048576) (k : KV) (hk : k.Wf) : Calls Try.prog 24 #[.slice la n lc, .int .i64 k.pt, .agg (ipCells k.V k.x)] X fun r X' => PRow w t M d B Ec Ep now n k X r X' := by
  obtain ⟨va, vc, hv', hBR, h1, h2, h3⟩ := h.b.cap
  rw [hv] at hv'
  simp only [Value.slice.injEq] at hv'
  obtain ⟨rfl, hn, rfl⟩ := hv'
  refine (row_any la n lc L k X hBR hn.symm hl (by omega) h2 h3 h.i.wf hk).mono ?_
  rintro r X' ⟨b, ⟨i, e, hi, he, rfl⟩ | ⟨hno, v1, p, rfl, hp, hBL⟩⟩
  · obtain ⟨g, cap, hg, _⟩ := h.b.at i e hi
    rw [hv] at hg
    simp only [Value.slice.injEq] at hg
    obtain ⟨rfl, _, rfl⟩ := hg
    have hb := h.below b
    rw [hv] at hb
    exact ⟨g, n, lc, L, i, e, rfl, hb, hn.symm, by omega, hi, he, b⟩
  · have hat : (L.take p ++ (⟨k, none, 0, 0, 0, 0⟩ : BV) :: L.drop p)[p]? = some ⟨k, none, 0, 0, 0, 0⟩ := by
      have e1 : (L.take p).length = p := by rw [List.length_take]; have := hp.1; omega
      rw [List.getElem?_append_right (by omega), e1, Nat.sub_self]
      rfl
    obtain ⟨g, cap, hg, _⟩ := hBL.at p _ hat
    have hlen : (L.take p ++ (⟨k, none, 0, 0, 0, 0⟩ : BV) :: L.drop p).length = n + 1 := by
      rw [List.length_append, List.length_cons, List.length_take, List.length_drop]
      have := hp.1
      omega
    subst hg
    have hb := h.below b
    refine ⟨g, _, cap, _, p, _, rfl, ⟨hb.c, hb.l, BL.mono hBL h.l.bel.size, h.i.add hk hno hp⟩, rfl, by omega, hat, eqP_refl k, b⟩
end
end Go.Proofs.Ytialefdojeddjaa
