/-
  A link address that came in.
-/
import Derived.Test.YtdglaigelpghdaaL5Pad
import Derived.ProofKit
import Derived.OpenShut
import Derived.Laws.Tables
import Derived.Laws.ResultCell
import Derived.Test.YtdglaigelpghdaaMixH
namespace Go.Proofs.Ytdglaigelpghdaa
open Go.RowKit Go.ChangeShapes Go.WideShapes

/-- a link address: six bytes -/
def macCells (x : Nat → Nat) : Array Value := #[.int .u8 (x 0 : Nat), .int .u8 (x 1 : Nat), .int .u8 (x 2 : Nat), .int .u8 (x 3 : Nat), .int .u8 (x 4 : Nat), .int .u8 (x 5 : Nat)]
theorem macCells_eq (x : Nat → Nat) : macCells x = ((List.range 6).map (fun i => Value.int .u8 (x i : Nat))).toArray := rfl
theorem Try.cellsMac : Try.prog.cellsOf 24 = 6 := by kernel_rfl
theorem Try.cellsB : Try.prog.cellsOf 5 = 1 := by kernel_rfl
theorem okWide_mac {W : World} {base : Nat} {v : Value} (hv : Value.okWide Try.prog W .any base 24 v) : ∃ cs : Array Value, v = .agg cs ∧ cs.size = 6 := by
  simp only [Value.okWide, Try.underlying24] at hv
  obtain ⟨cs, h1, h2, _⟩ := hv
  exact ⟨cs, h1, by rw [h2, Try.cellsMac]⟩
theorem open_mac {H : Type} {enc : TypeId × Value → H} {W : World} {base : Nat} {v : Value} {d : DataW H} {p : List MemPlace} (hv : Value.okWide Try.prog W .any base 24 v)
    (h : DataW.Trod enc Try.prog W 0 (fun _ => true) true 24 v d p) : ∃ (x : Nat → Nat), v = .agg (macCells x) ∧ (∀ i, x i < 256) := by
  obtain ⟨cs, rfl, hsz⟩ := okWide_mac hv
  obtain ⟨fuel, hf⟩ := h
  obtain ⟨r⟩ := cs
  simp only [List.size_toArray] at hsz
  obtain ⟨ys, m, _, _, _, hyl, hel⟩ := DataW.trod_array Try.underlying24 hf
  have hb : ∀ i, i < 6 → ∃ a : Nat, a < 256 ∧ r[i]? = some (.int .u8 (a : Int)) := by
    intro i hi
    have h1 := hel i hi
    simp only [Value.cells] at h1
    rw [Try.cellsB, Nat.mul_one, List.getElem?_eq_getElem (by omega), List.drop_eq_getElem_cons (show i < r.length by omega), List.take_succ_cons, List.take_zero] at h1
    obtain ⟨a, e1, _, wa⟩ := DataW.trod_int Try.underlying5 h1
    simp only [List.cons.injEq, and_true] at e1
    simp [Lit.wf, IntKind.min, IntKind.max, IntKind.bits, IntKind.signed] at wa
    refine ⟨a.toNat, by omega, ?_⟩
    rw [List.getElem?_eq_getElem (show i < r.length by omega), e1]
    congr 2
    omega
  refine ⟨fun i => match r[i]? with | some (.int _ a) => a.toNat | _ => 0, ?_, fun i => ?_⟩
  rotate_left
  · by_cases hi : i < 6
    · obtain ⟨a, hlt, ha⟩ := hb i hi
      simp only [ha]
      omega
    · have hn : r[i]? = none := List.getElem?_eq_none (by omega)
      simp [hn]
  rw [macCells_eq]
  congr 1
  apply congrArg
  apply List.ext_getElem?
  intro i
  by_cases hi : i < 6
  · obtain ⟨a, _, ha⟩ := hb i hi
    rw [ha]
    simp [hi, ha]
  · rw [List.getElem?_eq_none (by omega), List.getElem?_eq_none (by simp; omega)]
theorem Try.sizeMac : (Try.prog.info? 24).map (·.size) = some 6 := by kernel_rfl
/-- it lies in a block of its own -/
def MacAt (w : World) (O : Nat) (x : Nat → Nat) : Prop := w.heap[O]? = some (.cells (macCells x) 24 (0, 0))
theorem load_mac (w : World) (O : Nat) (x : Nat → Nat) (hb : MacAt w O x) : (Instr.loadAt 24 (.pointer (some ⟨O, 0, none⟩))).run Try.prog w = .ok (.agg (macCells x)) w := by
  unfold MacAt at hb
  have v0 : w.cell? ⟨O, 0, none⟩ = some (.int .u8 (x 0 : Nat)) := by simp [World.cell?, hb, macCells]
  have v1 : w.cell? ⟨O, 1, none⟩ = some (.int .u8 (x 1 : Nat)) := by simp [World.cell?, hb, macCells]
  have v2 : w.cell? ⟨O, 2, none⟩ = some (.int .u8 (x 2 : Nat)) := by simp [World.cell?, hb, macCells]
  have v3 : w.cell? ⟨O, 3, none⟩ = some (.int .u8 (x 3 : Nat)) := by simp [World.cell?, hb, macCells]
  have v4 : w.cell? ⟨O, 4, none⟩ = some (.int .u8 (x 4 : Nat)) := by simp [World.cell?, hb, macCells]
  have v5 : w.cell? ⟨O, 5, none⟩ = some (.int .u8 (x 5 : Nat)) := by simp [World.cell?, hb, macCells]
  clear hb
  simp [Instr.loadAt, go_sem, v0, v1, v2, v3, v4, v5, macCells]
theorem yields_mac {ops : Array Oper} {o : Oper} {a : Act} {S : World → Prop} (x : Operand) (ho : o.op = .load 24 x) (O : Nat) (m : Nat → Nat) (hx : a.eval x = .pointer (some ⟨O, 0, none⟩)) (hw : Region.wanted o (yielded ops a.tmps) = true) (hS : ∀ w, S w → MacAt w O m) : YieldsIf Try.prog ops S o (.agg (macCells m)) a := by
  refine .inl ⟨hw, fun w hb => ?_⟩
  obtain ⟨dst, op, type, pos, after, guard⟩ := o
  simp only at ho
  subst ho
  simp only [execOp, Sem.run_bind, Sem.run_pure]
  rw [hx, load_mac w O m (hS w hb)]
  rfl
theorem yields_cell {ops : Array Oper} {o : Oper} {a : Act} {S : World → Prop} (x : Operand) (ho : o.op = .load 5 x) (p : Addr) (v : Value) (hp : p.spot = none) (hx : a.eval x = .pointer (some p)) (hw : Region.wanted o (yielded ops a.tmps) = true) (hS : ∀ w, S w → w.cell? p = some v) : YieldsIf Try.prog ops S o v a := by
  refine .inl ⟨hw, fun w hb => ?_⟩
  have hc := hS w hb
  obtain ⟨b, off, sp⟩ := p
  simp only at hp
  subst hp
  obtain ⟨dst, op, type, pos, after, guard⟩ := o
  simp only at ho
  subst ho
  simp only [execOp, Sem.run_bind, Sem.run_pure]
  rw [hx]
  simp [Instr.loadAt, go_sem, hc]
end Go.Proofs.Ytdglaigelpghdaa
