/-
  HoleLent: what was asked for and lies there: the rows of bytes, the rows of holes; all of them newer than B, the pairs older.
-/
import Derived.Test.YtcoaghcmbhogjaaWLn0
namespace Go.Proofs.Ytcoaghcmbhogjaa.H11
open Go.RowKit Go.Maps
structure LS (W : World) (B P5 P7 : Nat) (e ez : Ent) (k : Nat) (lv gv : Value) (ps : List Ap.Part) (gs : List Value) (w : World) : Prop where
  ln : HLn W P5 P7 e ez w
  lr : w.ownsRow B 22 1 lv (3 * k) (ps.map Ap.Part.val)
  gr : w.ownsRow B 43 1 gv k gs
  fam : Ap.Fam w B ps
  each : ∀ g, g ∈ gs → w.ownsRow B 45 2 g e.s.gp.length (gC e.s.gp)
  gd : gs.Pairwise Ap.R
  old : ∀ x, EB e x ∨ EB ez x ∨ x = P5 ∨ x = P7 → x < B
  hB : W.heap.size ≤ B ∧ B ≤ w.heap.size
theorem owns_down {w w' : World} (hb : Below w.heap.size w w') {B : Nat} {t : TypeId} {sz : Nat} {v : Value} {n : Nat} {xs : List Value} (h : w.ownsRow B t sz v n xs) : w'.ownsRow B t sz v n xs :=
  (Ch.ofBelow (S := fun _ => False) hb).owns h (fun _ _ q => q.elim)
theorem LS.below {W : World} {B P5 P7 : Nat} {e ez : Ent} {k : Nat} {lv gv : Value} {ps : List Ap.Part} {gs : List Value} {w w' : World} (h : LS W B P5 P7 e ez k lv gv ps gs w) (hb : Below w.heap.size w w') : LS W B P5 P7 e ez k lv gv ps gs w' :=
  ⟨h.ln.below hb, owns_down hb h.lr, owns_down hb h.gr, h.fam.old hb, fun g hg => owns_down hb (h.each g hg), h.gd, h.old, h.hB.1, Nat.le_trans h.hB.2 hb.size⟩
theorem LS.start {W : World} {P5 P7 : Nat} {e ez : Ent} {w : World} (h : HLn W P5 P7 e ez w) : LS W w.heap.size P5 P7 e ez 0 (.slice none 0 0) (.slice none 0 0) [] [] w :=
  ⟨h, ⟨rfl, .inl ⟨rfl, rfl⟩⟩, ⟨rfl, .inl ⟨rfl, rfl⟩⟩, Ap.Fam.nil _ _, fun g hg => absurd hg (by simp), List.Pairwise.nil, fun x hx => by
    rcases hx with hx | hx | rfl | rfl
    · exact h.ok1.lt x hx
    · exact h.ok2.lt x hx
    · exact h.p5.lt
    · exact h.p7.lt, h.bel.size, Nat.le_refl _⟩
end Go.Proofs.Ytcoaghcmbhogjaa.H11
