/-
  HoleLent's state: two pairs, each in a block of its own.
-/
import Derived.Test.YtcoaghcmbhogjaaApH
namespace Go.Proofs.Ytcoaghcmbhogjaa.H11
open Go.RowKit Go.Maps
abbrev prv (e : Ent) : Array Value := #[.pointer (some ⟨e.H, 0, none⟩), .pointer (some ⟨e.R, 0, none⟩)]
structure HLn (W : World) (P5 P7 : Nat) (e1 e2 : Ent) (w : World) : Prop where
  bel : Below W.heap.size W w
  ok1 : EOk w e1
  ok2 : EOk w e2
  lo1 : ∀ x, EB e1 x → W.heap.size ≤ x
  lo2 : ∀ x, EB e2 x → W.heap.size ≤ x
  dis : ∀ x, EB e1 x → ¬ EB e2 x
  p5 : PrAt w P5 (prv e1)
  p7 : PrAt w P7 (prv e2)
  n5 : W.heap.size ≤ P5 ∧ ¬ EB e1 P5 ∧ ¬ EB e2 P5
  n7 : W.heap.size ≤ P7 ∧ ¬ EB e1 P7 ∧ ¬ EB e2 P7
theorem HLn.below {W : World} {P5 P7 : Nat} {e1 e2 : Ent} {w w' : World} (h : HLn W P5 P7 e1 e2 w) (hb : Below w.heap.size w w') : HLn W P5 P7 e1 e2 w' :=
  ⟨h.bel.trans (hb.mono h.bel.size), h.ok1.below hb, h.ok2.below hb, h.lo1, h.lo2, h.dis, h.p5.below hb, h.p7.below hb, h.n5, h.n7⟩
theorem HLn.put1 {W : World} {P5 P7 : Nat} {e1 e2 : Ent} {w w' : World} {s' : HS} (h : HLn W P5 P7 e1 e2 w) (m : EMd w e1 s' w') : ∃ e, HLn W P5 P7 e e2 w' ∧ e.s = s' ∧ e.H = e1.H ∧ e.R = e1.R := by
  obtain ⟨v', u', m1, m2, m3⟩ := m.open
  have key : ∀ x, x < w.heap.size → ¬ EB e1 x → ¬ EB ⟨e1.H, e1.R, s', v', u'⟩ x := fun x hx hn q => (m2 x q).elim hn (fun z => by omega)
  refine ⟨⟨e1.H, e1.R, s', v', u'⟩, ⟨h.bel.trans (m3.below (fun x q => h.lo1 x q) h.bel.size), m1, h.ok2.ch m3 (fun x hx q => h.dis x q hx), fun x hx => (m2 x hx).elim (h.lo1 x) (fun z => Nat.le_trans h.bel.size z), h.lo2, fun x hx q => (m2 x hx).elim (fun z => h.dis x z q) (fun z => by have := h.ok2.lt x q; omega), h.p5.ch m3 h.n5.2.1, h.p7.ch m3 h.n7.2.1, ⟨h.n5.1, key _ h.p5.lt h.n5.2.1, h.n5.2.2⟩, ⟨h.n7.1, key _ h.p7.lt h.n7.2.1, h.n7.2.2⟩⟩, rfl, rfl, rfl⟩
theorem HLn.put2 {W : World} {P5 P7 : Nat} {e1 e2 : Ent} {w w' : World} {s' : HS} (h : HLn W P5 P7 e1 e2 w) (m : EMd w e2 s' w') : ∃ e, HLn W P5 P7 e1 e w' ∧ e.s = s' ∧ e.H = e2.H ∧ e.R = e2.R := by
  obtain ⟨v', u', m1, m2, m3⟩ := m.open
  have key : ∀ x, x < w.heap.size → ¬ EB e2 x → ¬ EB ⟨e2.H, e2.R, s', v', u'⟩ x := fun x hx hn q => (m2 x q).elim hn (fun z => by omega)
  refine ⟨⟨e2.H, e2.R, s', v', u'⟩, ⟨h.bel.trans (m3.below (fun x q => h.lo2 x q) h.bel.size), h.ok1.ch m3 (fun x hx q => h.dis x hx q), m1, h.lo1, fun x hx => (m2 x hx).elim (h.lo2 x) (fun z => Nat.le_trans h.bel.size z), fun x hx q => (m2 x q).elim (fun z => h.dis x hx z) (fun z => by have := h.ok1.lt x hx; omega), h.p5.ch m3 h.n5.2.2, h.p7.ch m3 h.n7.2.2, ⟨h.n5.1, h.n5.2.1, key _ h.p5.lt h.n5.2.2⟩, ⟨h.n7.1, h.n7.2.1, key _ h.p7.lt h.n7.2.2⟩⟩, rfl, rfl, rfl⟩
end Go.Proofs.Ytcoaghcmbhogjaa.H11
