/-
  Layer 4: an array of sixteen bytes that came in.
-/
import Derived.Test.YtfeabifjnihooaaDoorAdOp
namespace Go.Proofs.YtfeabifjnihooaaDoor
open Go.RowKit Go.ChangeShapes Go.WideShapes

theorem arL_eq (f : Nat → Nat) : (arCells f).toList = (List.range 16).map (fun i => Value.int .u8 (f i : Nat)) := rfl
set_option maxRecDepth 100000 in
theorem open_arl {H : Type} {enc : TypeId × Value → H} {W : World} {fuel : Nat} {r : List Value} {x : DataW H × List MemPlace} (hr : r.length = 16) (hf : DataW.trod enc Tryd.prog W 0 (fun _ => true) true fuel 22 r = some x) : ∃ y : Nat → Nat, r = (arCells y).toList ∧ ∀ i, y i < 256 := by
  obtain ⟨d, p⟩ := x
  obtain ⟨ys, m, _, _, _, hyl, hel⟩ := DataW.trod_array Tryd.underlying22 hf
  have hb : ∀ i, i < 16 → ∃ a : Nat, a < 256 ∧ r[i]? = some (.int .u8 (a : Int)) := by
    intro i hi
    have h1 := hel i hi
    rw [Tryd.cellsB', Nat.mul_one, List.getElem?_eq_getElem (by omega), List.drop_eq_getElem_cons (show i < r.length by omega), List.take_succ_cons, List.take_zero] at h1
    obtain ⟨a, e1, _, wa⟩ := DataW.trod_int Tryd.underlying5 h1
    simp only [List.cons.injEq, and_true] at e1
    simp [Lit.wf, IntKind.min, IntKind.max, IntKind.bits, IntKind.signed] at wa
    refine ⟨a.toNat, by omega, ?_⟩
    rw [List.getElem?_eq_getElem (show i < r.length by omega), e1]
    congr 2
    omega
  refine ⟨fun i => match r[i]? with | some (.int _ a) => a.toNat | _ => 0, ?_, fun i => ?_⟩
  rotate_left
  · by_cases hi : i < 16
    · obtain ⟨a, hlt, ha⟩ := hb i hi
      simp only [ha]
      omega
    · have hn : r[i]? = none := List.getElem?_eq_none (by omega)
      simp [hn]
  rw [arL_eq]
  apply List.ext_getElem?
  intro i
  by_cases hi : i < 16
  · obtain ⟨a, _, ha⟩ := hb i hi
    rw [ha]
    simp [hi, ha]
  · rw [List.getElem?_eq_none (by omega), List.getElem?_eq_none (by simp; omega)]
set_option maxRecDepth 100000 in
theorem open_arv {H : Type} {enc : TypeId × Value → H} {W : World} {base : Nat} {v : Value} {d : DataW H} {p : List MemPlace} (hv : Value.okWide Tryd.prog W .any base 22 v)
    (h : DataW.Trod enc Tryd.prog W 0 (fun _ => true) true 22 v d p) : ∃ m : Nat → Nat, v = .agg (arCells m) ∧ ∀ i, i < 16 → m i < 256 := by
  obtain ⟨cs, rfl, hz⟩ : ∃ cs, v = .agg cs ∧ cs.size = Tryd.prog.cellsOf 22 := by
    simp only [Value.okWide, Tryd.underlying22] at hv
    obtain ⟨cs, h1, h2, _⟩ := hv
    exact ⟨cs, h1, h2⟩
  obtain ⟨fuel, hf⟩ := h
  obtain ⟨l⟩ := cs
  have hf' : DataW.trod enc Tryd.prog W 0 (fun _ => true) true fuel 22 l = some (d, p) := hf
  have hz6 : l.length = 16 := by rw [Tryd.cellsA'] at hz; simpa using hz
  obtain ⟨m, e, hm⟩ := open_arl hz6 hf'
  exact ⟨m, by rw [e], fun i _ => hm i⟩
end Go.Proofs.YtfeabifjnihooaaDoor
