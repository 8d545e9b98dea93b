/-
  Layer 14: a route handed in by value, opened.
-/
import Derived.Test.YtdjbfhllialinaaDoorRtOq
namespace Go.Proofs.YtdjbfhllialinaaDoor
open Go.ChangeShapes Go.WideShapes Go.ChangeAt Go.RowKit

set_option maxRecDepth 100000 in
theorem open_rt {H : Type} {enc : TypeId × Value → H} {W : World} {base : Nat} {v : Value} {d : DataW H} {p : List MemPlace} (hv : Value.okWide Tryd.prog W .any base 29 v)
    (h : DataW.Trod enc Tryd.prog W 0 (fun _ => true) true 29 v d p) : ∃ r : RV, v = .agg (rtC r) ∧ ROk r := by
  obtain ⟨cs, rfl, _⟩ := okWide_struct Tryd.underlying29 hv
  obtain ⟨fuel, hf⟩ := h
  obtain ⟨l⟩ := cs
  have hf' : DataW.trod enc Tryd.prog W 0 (fun _ => true) true fuel 29 l = some (d, p) := hf
  obtain ⟨r, e, hr⟩ := open_rtw hf'
  exact ⟨r, by rw [e]; rfl, hr⟩
end Go.Proofs.YtdjbfhllialinaaDoor
