/-
  An address in memory; the document's version.
-/
import Derived.Test.YtfoeepbndfnifaaDoorI8Ps1
import Derived.Deep.DeepCutAuto
namespace Go.Proofs.YtfoeepbndfnifaaDoor
open Go.RowKit



def verOf (V : Int) (x : Nat → Nat) : Int := if V = 6 then 6 else if restZ x = true ∧ V = 4 then 4 else 0
theorem restZ_iff (x : Nat → Nat) : restZ x = true ↔ ∀ i, 4 ≤ i → i < 16 → x i = 0 := by
  simp only [restZ, decide_eq_true_eq]
  constructor
  · rintro ⟨h4, h5, h6, h7, h8, h9, h10, h11, h12, h13, h14, h15⟩ i h1 h2
    have : i = 4 ∨ i = 5 ∨ i = 6 ∨ i = 7 ∨ i = 8 ∨ i = 9 ∨ i = 10 ∨ i = 11 ∨ i = 12 ∨ i = 13 ∨ i = 14 ∨ i = 15 := by omega
    rcases this with rfl | rfl | rfl | rfl | rfl | rfl | rfl | rfl | rfl | rfl | rfl | rfl <;> assumption
  · intro h
    exact ⟨h 4 (by omega) (by omega), h 5 (by omega) (by omega), h 6 (by omega) (by omega), h 7 (by omega) (by omega), h 8 (by omega) (by omega), h 9 (by omega) (by omega), h 10 (by omega) (by omega), h 11 (by omega) (by omega), h 12 (by omega) (by omega), h 13 (by omega) (by omega), h 14 (by omega) (by omega), h 15 (by omega) (by omega)⟩

end Go.Proofs.YtfoeepbndfnifaaDoor
