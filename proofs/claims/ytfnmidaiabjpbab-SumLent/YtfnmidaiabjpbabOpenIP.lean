/-
  An address that came in: what its reading tells of it.
-/
import Derived.Test.YtfnmidaiabjpbabPs2
import Derived.Lib.SmallJoins
import Derived.ProofKit
import Derived.OpenShut
namespace Go.Proofs.Ytfnmidaiabjpbab
open Go.RowKit Go.ChangeShapes Go.WideShapes

theorem Try.cellsIP : Try.prog.cellsOf 44 = 17 := by kernel_rfl
theorem Try.cellsA : Try.prog.cellsOf 42 = 16 := by kernel_rfl
theorem Try.cellsI : Try.prog.cellsOf 3 = 1 := by kernel_rfl
theorem Try.cellsB : Try.prog.cellsOf 5 = 1 := by kernel_rfl
theorem open_ip {H : Type} {enc : TypeId × Value → H} {W : World} {base : Nat} {v : Value} {d : DataW H} {p : List MemPlace} (hv : Value.okWide Try.prog W .any base 44 v)
    (h : DataW.Trod enc Try.prog W 0 (fun _ => true) true 44 v d p) : ∃ (V : Int) (x : Nat → Nat), v = .agg (ipCells V x) := by
  obtain ⟨cs, rfl, hsz⟩ := okWide_struct Try.underlying44 hv
  rw [Try.cellsIP] at hsz
  obtain ⟨fuel, hf⟩ := h
  obtain ⟨xs, n, _, hx, hl, hlen, hfs⟩ := DataW.trod_struct Try.underlying44 hf
  have f0 := hfs 0 _ rfl
  have f1 := hfs 1 _ rfl
  simp [Try.cellsI, Try.cellsA, Value.cells] at f0 f1
  have hxl : xs.length = 2 := hlen
  obtain ⟨l⟩ := cs
  simp only [List.size_toArray] at hsz
  simp only at f0 f1
  match l, hsz with
  | c0 :: r, hsz =>
    have hr : r.length = 16 := by simpa using hsz
    rw [List.getElem?_eq_getElem (by omega)] at f0 f1
    simp only [List.take_succ_cons, List.take_zero, List.tail_cons] at f0 f1
    obtain ⟨V, e0, _, _⟩ := DataW.trod_int Try.underlying3 f0
    simp only [List.cons.injEq, and_true] at e0
    rw [List.take_of_length_le (by omega)] at f1
    obtain ⟨ys, m, _, _, _, hyl, hel⟩ := DataW.trod_array Try.underlying42 f1
    have hb : ∀ i, i < 16 → ∃ a : Nat, r[i]? = some (.int .u8 (a : Int)) := by
      intro i hi
      have h1 := hel i hi
      rw [Try.cellsB, Nat.mul_one, List.getElem?_eq_getElem (by omega), List.drop_eq_getElem_cons (show i < r.length by omega), List.take_succ_cons, List.take_zero] at h1
      obtain ⟨a, e1, _, wa⟩ := DataW.trod_int Try.underlying5 h1
      simp only [List.cons.injEq, and_true] at e1
      simp [Lit.wf, IntKind.min, IntKind.max, IntKind.bits, IntKind.signed] at wa
      refine ⟨a.toNat, ?_⟩
      rw [List.getElem?_eq_getElem (show i < r.length by omega), e1]
      congr 2
      omega
    refine ⟨V, fun i => match r[i]? with | some (.int _ a) => a.toNat | _ => 0, ?_⟩
    rw [ipCells_eq, e0]
    congr 1
    congr 1
    apply congrArg
    apply List.ext_getElem?
    intro i
    by_cases hi : i < 16
    · obtain ⟨a, ha⟩ := hb i hi
      rw [ha]
      simp [hi, ha]
    · rw [List.getElem?_eq_none (by omega), List.getElem?_eq_none (by simp; omega)]
end Go.Proofs.Ytfnmidaiabjpbab
