/-
  An address: its cells, an address in memory, one that is loaded, one that came in.
-/
import Derived.Test.YtmgbfjfaplobbaaSBase
import Derived.Deep.DeepCutAuto
import Derived.Laws.StructEq
import Derived.Lib.SmallJoins
import Derived.ProofKit
import Derived.OpenShut
namespace Go.Proofs.Ytmgbfjfaplobbaa
open Go.RowKit Go.ChangeShapes Go.WideShapes

/-- sixteen bytes -/
def arCells (x : Nat → Nat) : Array Value := #[.int .u8 (x 0 : Nat), .int .u8 (x 1 : Nat), .int .u8 (x 2 : Nat), .int .u8 (x 3 : Nat), .int .u8 (x 4 : Nat), .int .u8 (x 5 : Nat), .int .u8 (x 6 : Nat), .int .u8 (x 7 : Nat), .int .u8 (x 8 : Nat), .int .u8 (x 9 : Nat), .int .u8 (x 10 : Nat), .int .u8 (x 11 : Nat), .int .u8 (x 12 : Nat), .int .u8 (x 13 : Nat), .int .u8 (x 14 : Nat), .int .u8 (x 15 : Nat)]
/-- an address: its version, its sixteen bytes -/
def ipCells (V : Int) (x : Nat → Nat) : Array Value := #[.int .i64 V, .int .u8 (x 0 : Nat), .int .u8 (x 1 : Nat), .int .u8 (x 2 : Nat), .int .u8 (x 3 : Nat), .int .u8 (x 4 : Nat), .int .u8 (x 5 : Nat), .int .u8 (x 6 : Nat), .int .u8 (x 7 : Nat), .int .u8 (x 8 : Nat), .int .u8 (x 9 : Nat), .int .u8 (x 10 : Nat), .int .u8 (x 11 : Nat), .int .u8 (x 12 : Nat), .int .u8 (x 13 : Nat), .int .u8 (x 14 : Nat), .int .u8 (x 15 : Nat)]
theorem arCells_eq (x : Nat → Nat) : arCells x = ((List.range 16).map (fun i => Value.int .u8 (x i : Nat))).toArray := rfl
theorem ipCells_eq (V : Int) (x : Nat → Nat) : ipCells V x = ((Value.int .i64 V) :: (List.range 16).map (fun i => Value.int .u8 (x i : Nat))).toArray := rfl
/-- an address in memory -/
structure Boxed (w : World) (B : Nat) (V : Int) (x : Nat → Nat) : Prop where
  ver : w.cell? ⟨B, 0, none⟩ = some (.int .i64 V)
  byte : ∀ i, i < 16 → w.cell? ⟨B, 1 + i, none⟩ = some (.int .u8 (x i : Nat))
theorem boxed_new (w : World) (V : Int) (x : Nat → Nat) (t : TypeId) : Boxed (w.alloc (.cells (ipCells V x) t)) w.heap.size V x := by
  refine ⟨by rw [World.cell?_alloc_at _ _ _ _ rfl]; rfl, fun i hi => ?_⟩
  rw [World.cell?_alloc_at _ _ _ _ rfl, ipCells_eq]
  simp [Nat.add_comm 1 i, hi]
theorem Boxed.old {w w' : World} {B : Nat} {V : Int} {x : Nat → Nat} (h : Boxed w B V x) (hb : Below w.heap.size w w') : Boxed w' B V x := by
  have hB := World.block_lt_of_cell? w _ h.ver
  exact ⟨(hb.cell (p := ⟨B, 0, none⟩) hB).trans h.ver, fun i hi => (hb.cell (p := ⟨B, 1 + i, none⟩) hB).trans (h.byte i hi)⟩
def ipL (x : Nat → Nat) (n : Nat) : List Nat := (List.range n).map x
theorem ipL_len (x : Nat → Nat) (n : Nat) : (ipL x n).length = n := by simp [ipL]
theorem Boxed.seg {w : World} {B : Nat} {V : Int} {x : Nat → Nat} (h : Boxed w B V x) (n : Nat) (hn : n ≤ 16) : Seg .u8 w (some ⟨B, 1, none⟩) (toI (ipL x n)) := by
  refine .inr ⟨B, 1, rfl, fun i hi => ?_⟩
  rw [toI_len, ipL_len] at hi
  rw [h.byte i (by omega), toI_getD]
  simp [ipL, List.getD, hi]

set_option maxHeartbeats 1600000 in
set_option maxRecDepth 100000 in
theorem load_ip (w : World) (B : Nat) (V : Int) (f : Nat → Nat) (hb : Boxed w B V f) : (Instr.loadAt 24 (.pointer (some ⟨B, 0, none⟩))).run Try.prog w = .ok (.agg (ipCells V f)) w := by
  have v0 : w.cell? ⟨B, 0, none⟩ = some (.int .i64 V) := hb.ver
  have v1 : w.cell? ⟨B, 1, none⟩ = some (.int .u8 (f 0 : Nat)) := hb.byte 0 (by decide)
  have v2 : w.cell? ⟨B, 2, none⟩ = some (.int .u8 (f 1 : Nat)) := hb.byte 1 (by decide)
  have v3 : w.cell? ⟨B, 3, none⟩ = some (.int .u8 (f 2 : Nat)) := hb.byte 2 (by decide)
  have v4 : w.cell? ⟨B, 4, none⟩ = some (.int .u8 (f 3 : Nat)) := hb.byte 3 (by decide)
  have v5 : w.cell? ⟨B, 5, none⟩ = some (.int .u8 (f 4 : Nat)) := hb.byte 4 (by decide)
  have v6 : w.cell? ⟨B, 6, none⟩ = some (.int .u8 (f 5 : Nat)) := hb.byte 5 (by decide)
  have v7 : w.cell? ⟨B, 7, none⟩ = some (.int .u8 (f 6 : Nat)) := hb.byte 6 (by decide)
  have v8 : w.cell? ⟨B, 8, none⟩ = some (.int .u8 (f 7 : Nat)) := hb.byte 7 (by decide)
  have v9 : w.cell? ⟨B, 9, none⟩ = some (.int .u8 (f 8 : Nat)) := hb.byte 8 (by decide)
  have v10 : w.cell? ⟨B, 10, none⟩ = some (.int .u8 (f 9 : Nat)) := hb.byte 9 (by decide)
  have v11 : w.cell? ⟨B, 11, none⟩ = some (.int .u8 (f 10 : Nat)) := hb.byte 10 (by decide)
  have v12 : w.cell? ⟨B, 12, none⟩ = some (.int .u8 (f 11 : Nat)) := hb.byte 11 (by decide)
  have v13 : w.cell? ⟨B, 13, none⟩ = some (.int .u8 (f 12 : Nat)) := hb.byte 12 (by decide)
  have v14 : w.cell? ⟨B, 14, none⟩ = some (.int .u8 (f 13 : Nat)) := hb.byte 13 (by decide)
  have v15 : w.cell? ⟨B, 15, none⟩ = some (.int .u8 (f 14 : Nat)) := hb.byte 14 (by decide)
  have v16 : w.cell? ⟨B, 16, none⟩ = some (.int .u8 (f 15 : Nat)) := hb.byte 15 (by decide)
  clear hb
  simp [Instr.loadAt, go_sem, v0, v1, v2, v3, v4, v5, v6, v7, v8, v9, v10, v11, v12, v13, v14, v15, v16, ipCells]
theorem wpList_load_ip {ops : Array Oper} {rest : List Oper} {o : Oper} {a : Act} {w : World} {Q : Exit → Act → World → Prop} (x : Operand) (ho : o.op = .load 24 x) (B : Nat) (V : Int) (f : Nat → Nat) (hx : a.eval x = .pointer (some ⟨B, 0, none⟩)) (hb : Boxed w B V f)
    (hw : Region.wanted o (yielded ops a.tmps) = true) (h : wpList Try.prog ops Q rest (a.put o.dst (.agg (ipCells V f))) w) : wpList Try.prog ops Q (o :: rest) a w := by
  refine wpList_step fun K hK => ?_
  rw [if_pos hw]
  have hrun : (execOp a.eval o).run Try.prog w = .ok (.value (.agg (ipCells V f))) w := by
    obtain ⟨dst, op, type, pos, after, guard⟩ := o
    simp only at ho
    subst ho
    simp only [execOp, Sem.run_bind, Sem.run_pure]
    rw [hx, load_ip w B V f hb]
    rfl
  unfold Oper.wp
  rw [hrun]
  exact hK _ _ h
/-- sixteen bytes, the same -/
def same16 (x y : Nat → Nat) : Bool := decide (x 0 = y 0 ∧ x 1 = y 1 ∧ x 2 = y 2 ∧ x 3 = y 3 ∧ x 4 = y 4 ∧ x 5 = y 5 ∧ x 6 = y 6 ∧ x 7 = y 7 ∧ x 8 = y 8 ∧ x 9 = y 9 ∧ x 10 = y 10 ∧ x 11 = y 11 ∧ x 12 = y 12 ∧ x 13 = y 13 ∧ x 14 = y 14 ∧ x 15 = y 15)
theorem same16_iff (x y : Nat → Nat) : same16 x y = true ↔ ∀ i, i < 16 → x i = y i := by
  simp only [same16, decide_eq_true_eq]
  constructor
  · rintro ⟨h0, h1, h2, h3, h4, h5, h6, h7, h8, h9, h10, h11, h12, h13, h14, h15⟩ i hi
    have : i = 0 ∨ i = 1 ∨ i = 2 ∨ i = 3 ∨ i = 4 ∨ i = 5 ∨ i = 6 ∨ i = 7 ∨ i = 8 ∨ i = 9 ∨ i = 10 ∨ i = 11 ∨ i = 12 ∨ i = 13 ∨ i = 14 ∨ i = 15 := by omega
    rcases this with rfl | rfl | rfl | rfl | rfl | rfl | rfl | rfl | rfl | rfl | rfl | rfl | rfl | rfl | rfl | rfl <;> assumption
  · intro h
    exact ⟨h 0 (by omega), h 1 (by omega), h 2 (by omega), h 3 (by omega), h 4 (by omega), h 5 (by omega), h 6 (by omega), h 7 (by omega), h 8 (by omega), h 9 (by omega), h 10 (by omega), h 11 (by omega), h 12 (by omega), h 13 (by omega), h 14 (by omega), h 15 (by omega)⟩
theorem Try.cellsIP : Try.prog.cellsOf 24 = 17 := by kernel_rfl
theorem Try.cellsA : Try.prog.cellsOf 22 = 16 := by kernel_rfl
theorem Try.cellsI : Try.prog.cellsOf 3 = 1 := by kernel_rfl
theorem Try.cellsB : Try.prog.cellsOf 5 = 1 := by kernel_rfl
theorem open_ip {H : Type} {enc : TypeId × Value → H} {W : World} {base : Nat} {v : Value} {d : DataW H} {p : List MemPlace} (hv : Value.okWide Try.prog W .any base 24 v)
    (h : DataW.Trod enc Try.prog W 0 (fun _ => true) true 24 v d p) : ∃ (V : Int) (x : Nat → Nat), v = .agg (ipCells V x) ∧ (∀ i, x i < 256) ∧ (Lit.int .i64 V).wf = true := by
  obtain ⟨cs, rfl, hsz⟩ := okWide_struct Try.underlying24 hv
  rw [Try.cellsIP] at hsz
  obtain ⟨fuel, hf⟩ := h
  obtain ⟨xs, n, _, hx, hl, hlen, hfs⟩ := DataW.trod_struct Try.underlying24 hf
  have f0 := hfs 0 _ rfl
  have f1 := hfs 1 _ rfl
  simp [Try.cellsI, Try.cellsA, Value.cells] at f0 f1
  have hxl : xs.length = 2 := hlen
  obtain ⟨l⟩ := cs
  simp only [List.size_toArray] at hsz
  simp only at f0 f1
  match l, hsz with
  | c0 :: r, hsz =>
    have hr : r.length = 16 := by simpa using hsz
    rw [List.getElem?_eq_getElem (by omega)] at f0 f1
    simp only [List.take_succ_cons, List.take_zero, List.tail_cons] at f0 f1
    obtain ⟨V, e0, _, wV⟩ := DataW.trod_int Try.underlying3 f0
    simp only [List.cons.injEq, and_true] at e0
    rw [List.take_of_length_le (by omega)] at f1
    obtain ⟨ys, m, _, _, _, hyl, hel⟩ := DataW.trod_array Try.underlying22 f1
    have hb : ∀ i, i < 16 → ∃ a : Nat, a < 256 ∧ r[i]? = some (.int .u8 (a : Int)) := by
      intro i hi
      have h1 := hel i hi
      rw [Try.cellsB, Nat.mul_one, List.getElem?_eq_getElem (by omega), List.drop_eq_getElem_cons (show i < r.length by omega), List.take_succ_cons, List.take_zero] at h1
      obtain ⟨a, e1, _, wa⟩ := DataW.trod_int Try.underlying5 h1
      simp only [List.cons.injEq, and_true] at e1
      simp [Lit.wf, IntKind.min, IntKind.max, IntKind.bits, IntKind.signed] at wa
      refine ⟨a.toNat, by omega, ?_⟩
      rw [List.getElem?_eq_getElem (show i < r.length by omega), e1]
      congr 2
      omega
    refine ⟨V, fun i => match r[i]? with | some (.int _ a) => a.toNat | _ => 0, ?_, fun i => ?_, wV⟩
    rotate_left
    · by_cases hi : i < 16
      · obtain ⟨a, hlt, ha⟩ := hb i hi
        simp only [ha]
        omega
      · have hn : r[i]? = none := List.getElem?_eq_none (by omega)
        simp [hn]
    rw [ipCells_eq, e0]
    congr 1
    congr 1
    apply congrArg
    apply List.ext_getElem?
    intro i
    by_cases hi : i < 16
    · obtain ⟨a, _, ha⟩ := hb i hi
      rw [ha]
      simp [hi, ha]
    · rw [List.getElem?_eq_none (by omega), List.getElem?_eq_none (by simp; omega)]
end Go.Proofs.Ytmgbfjfaplobbaa
