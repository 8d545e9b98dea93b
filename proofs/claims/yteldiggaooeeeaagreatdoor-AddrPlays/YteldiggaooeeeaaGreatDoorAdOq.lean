/-
  Layer 4: the prefixes and the link addresses that came in.
-/
import Derived.Test.YteldiggaooeeeaaGreatDoorAdOp
import Derived.Test.YteldiggaooeeeaaGreatDoorZg
namespace Go.Proofs.YteldiggaooeeeaaGreatDoor
open Go.RowKit Go.ChangeShapes Go.WideShapes

theorem Tryz.cellsPf : Tryz.prog.cellsOf 38 = 18 := by kernel_rfl
theorem Tryz.cellsMac : Tryz.prog.cellsOf 40 = 6 := by kernel_rfl
set_option maxRecDepth 100000 in
theorem open_mac {H : Type} {enc : TypeId × Value → H} {W : World} {fuel : Nat} {r : List Value} {x : DataW H × List MemPlace} (hr : r.length = 6) (hf : DataW.trod enc Tryz.prog W 0 (fun _ => true) true fuel 40 r = some x) : ∃ y : Nat → Nat, r = (macC y).toList ∧ ∀ i, y i < 256 := by
  obtain ⟨d, p⟩ := x
  obtain ⟨ys, m, _, _, _, hyl, hel⟩ := DataW.trod_array Tryz.underlying40 hf
  have hb : ∀ i, i < 6 → ∃ a : Nat, a < 256 ∧ r[i]? = some (.int .u8 (a : Int)) := by
    intro i hi
    have h1 := hel i hi
    rw [Tryz.cellsB', Nat.mul_one, List.getElem?_eq_getElem (by omega), List.drop_eq_getElem_cons (show i < r.length by omega), List.take_succ_cons, List.take_zero] at h1
    obtain ⟨a, e1, _, wa⟩ := DataW.trod_int Tryz.underlying5 h1
    simp only [List.cons.injEq, and_true] at e1
    simp [Lit.wf, IntKind.min, IntKind.max, IntKind.bits, IntKind.signed] at wa
    refine ⟨a.toNat, by omega, ?_⟩
    rw [List.getElem?_eq_getElem (show i < r.length by omega), e1]
    congr 2
    omega
  refine ⟨fun i => match r[i]? with | some (.int _ a) => a.toNat | _ => 0, ?_, fun i => ?_⟩
  rotate_left
  · by_cases hi : i < 6
    · obtain ⟨a, hlt, ha⟩ := hb i hi
      simp only [ha]
      omega
    · have hn : r[i]? = none := List.getElem?_eq_none (by omega)
      simp [hn]
  rw [show ∀ f : Nat → Nat, (macC f).toList = (List.range 6).map (fun i => Value.int .u8 (f i : Nat)) from fun _ => rfl]
  apply List.ext_getElem?
  intro i
  by_cases hi : i < 6
  · obtain ⟨a, _, ha⟩ := hb i hi
    rw [ha]
    simp [hi, ha]
  · rw [List.getElem?_eq_none (by omega), List.getElem?_eq_none (by simp; omega)]
theorem pf_split : ∀ l : List Value, l.length = 18 → l = (l.drop 0).take 17 ++ (l.drop 17).take 1
  | [_, _, _, _, _, _, _, _, _, _, _, _, _, _, _, _, _, _], _ => rfl
set_option maxRecDepth 100000 in
theorem open_pf {H : Type} {enc : TypeId × Value → H} {W : World} {base : Nat} {v : Value} {d : DataW H} {p : List MemPlace} (hv : Value.okWide Tryz.prog W .any base 38 v)
    (h : DataW.Trod enc Tryz.prog W 0 (fun _ => true) true 38 v d p) : ∃ q : PV, v = .agg (pfC q) ∧ ∀ i, i < 16 → q.x i < 256 := by
  obtain ⟨cs, rfl, _⟩ := okWide_struct Tryz.underlying38 hv
  obtain ⟨fuel, hf⟩ := h
  obtain ⟨l⟩ := cs
  have hf' : DataW.trod enc Tryz.prog W 0 (fun _ => true) true fuel 38 l = some (d, p) := hf
  obtain ⟨xs, n, _, hx, hl, hlen, hfs⟩ := DataW.trod_struct Tryz.underlying38 hf'
  rw [Tryz.cellsPf] at hl
  have hxl : xs.length = 2 := hlen
  have f0 : DataW.trod enc Tryz.prog W 0 (fun _ => true) true n 28 ((l.drop 0).take (Tryz.prog.cellsOf 28)) = xs[0]? := hfs 0 _ rfl
  have f1 : DataW.trod enc Tryz.prog W 0 (fun _ => true) true n 3 ((l.drop 17).take (Tryz.prog.cellsOf 3)) = xs[1]? := hfs 1 _ rfl
  rw [Tryz.cellsIP'] at f0
  rw [Tryz.cellsI'] at f1
  rw [List.getElem?_eq_getElem (by omega)] at f0 f1
  obtain ⟨V, x, e0, hx'⟩ := open_ipc f0
  obtain ⟨k, e1, _, _⟩ := DataW.trod_int Tryz.underlying3 f1
  refine ⟨⟨V, x, k⟩, ?_, fun i _ => hx' i⟩
  rw [pf_split l hl, e0, e1]
  rfl
set_option maxRecDepth 100000 in
theorem open_macv {H : Type} {enc : TypeId × Value → H} {W : World} {base : Nat} {v : Value} {d : DataW H} {p : List MemPlace} (hv : Value.okWide Tryz.prog W .any base 40 v)
    (h : DataW.Trod enc Tryz.prog W 0 (fun _ => true) true 40 v d p) : ∃ m : Nat → Nat, v = .agg (macC m) ∧ ∀ i, i < 6 → m i < 256 := by
  obtain ⟨cs, rfl, hz⟩ : ∃ cs, v = .agg cs ∧ cs.size = Tryz.prog.cellsOf 40 := by
    simp only [Value.okWide, Tryz.underlying40] at hv
    obtain ⟨cs, h1, h2, _⟩ := hv
    exact ⟨cs, h1, h2⟩
  obtain ⟨fuel, hf⟩ := h
  obtain ⟨l⟩ := cs
  have hf' : DataW.trod enc Tryz.prog W 0 (fun _ => true) true fuel 40 l = some (d, p) := hf
  have hz6 : l.length = 6 := by rw [Tryz.cellsMac] at hz; simpa using hz
  obtain ⟨m, e, hm⟩ := open_mac hz6 hf'
  exact ⟨m, by rw [e], fun i _ => hm i⟩
end Go.Proofs.YteldiggaooeeeaaGreatDoor
