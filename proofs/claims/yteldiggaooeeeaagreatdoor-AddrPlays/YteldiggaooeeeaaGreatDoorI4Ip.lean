/-
  An address: its cells, one in memory, one that is loaded, two held against one another (AIp, AEq, over Base).
-/
import Derived.Test.YteldiggaooeeeaaGreatDoorBase
import Derived.Deep.DeepCutAuto
import Derived.Laws.StructEq
import Derived.Lib.SmallJoins
import Derived.ProofKit
import Derived.OpenShut
namespace Go.Proofs.YteldiggaooeeeaaGreatDoor
open Go.RowKit Go.ChangeShapes Go.WideShapes

/-- sixteen bytes -/
def arCells (x : Nat → Nat) : Array Value := #[.int .u8 (x 0 : Nat), .int .u8 (x 1 : Nat), .int .u8 (x 2 : Nat), .int .u8 (x 3 : Nat), .int .u8 (x 4 : Nat), .int .u8 (x 5 : Nat), .int .u8 (x 6 : Nat), .int .u8 (x 7 : Nat), .int .u8 (x 8 : Nat), .int .u8 (x 9 : Nat), .int .u8 (x 10 : Nat), .int .u8 (x 11 : Nat), .int .u8 (x 12 : Nat), .int .u8 (x 13 : Nat), .int .u8 (x 14 : Nat), .int .u8 (x 15 : Nat)]
/-- an address: its version, its sixteen bytes -/
def ipCells (V : Int) (x : Nat → Nat) : Array Value := #[.int .i64 V, .int .u8 (x 0 : Nat), .int .u8 (x 1 : Nat), .int .u8 (x 2 : Nat), .int .u8 (x 3 : Nat), .int .u8 (x 4 : Nat), .int .u8 (x 5 : Nat), .int .u8 (x 6 : Nat), .int .u8 (x 7 : Nat), .int .u8 (x 8 : Nat), .int .u8 (x 9 : Nat), .int .u8 (x 10 : Nat), .int .u8 (x 11 : Nat), .int .u8 (x 12 : Nat), .int .u8 (x 13 : Nat), .int .u8 (x 14 : Nat), .int .u8 (x 15 : Nat)]
theorem arCells_eq (x : Nat → Nat) : arCells x = ((List.range 16).map (fun i => Value.int .u8 (x i : Nat))).toArray := rfl
theorem ipCells_eq (V : Int) (x : Nat → Nat) : ipCells V x = ((Value.int .i64 V) :: (List.range 16).map (fun i => Value.int .u8 (x i : Nat))).toArray := rfl
/-- an address in memory -/
structure Boxed (w : World) (B : Nat) (V : Int) (x : Nat → Nat) : Prop where
  ver : w.cell? ⟨B, 0, none⟩ = some (.int .i64 V)
  byte : ∀ i, i < 16 → w.cell? ⟨B, 1 + i, none⟩ = some (.int .u8 (x i : Nat))
theorem boxed_new (w : World) (V : Int) (x : Nat → Nat) (t : TypeId) : Boxed (w.alloc (.cells (ipCells V x) t)) w.heap.size V x := by
  refine ⟨by rw [World.cell?_alloc_at _ _ _ _ rfl]; rfl, fun i hi => ?_⟩
  rw [World.cell?_alloc_at _ _ _ _ rfl, ipCells_eq]
  simp [Nat.add_comm 1 i, hi]
theorem Boxed.old {w w' : World} {B : Nat} {V : Int} {x : Nat → Nat} (h : Boxed w B V x) (hb : Below w.heap.size w w') : Boxed w' B V x := by
  have hB := World.block_lt_of_cell? w _ h.ver
  exact ⟨(hb.cell (p := ⟨B, 0, none⟩) hB).trans h.ver, fun i hi => (hb.cell (p := ⟨B, 1 + i, none⟩) hB).trans (h.byte i hi)⟩
def ipL (x : Nat → Nat) (n : Nat) : List Nat := (List.range n).map x
theorem ipL_len (x : Nat → Nat) (n : Nat) : (ipL x n).length = n := by simp [ipL]
theorem Boxed.seg {w : World} {B : Nat} {V : Int} {x : Nat → Nat} (h : Boxed w B V x) (n : Nat) (hn : n ≤ 16) : Seg .u8 w (some ⟨B, 1, none⟩) (toI (ipL x n)) := by
  refine .inr ⟨B, 1, rfl, fun i hi => ?_⟩
  rw [toI_len, ipL_len] at hi
  rw [h.byte i (by omega), toI_getD]
  simp [ipL, List.getD, hi]

set_option maxHeartbeats 1600000 in
set_option maxRecDepth 100000 in
theorem load_ip (w : World) (B : Nat) (V : Int) (f : Nat → Nat) (hb : Boxed w B V f) : (Instr.loadAt 28 (.pointer (some ⟨B, 0, none⟩))).run Tryz.prog w = .ok (.agg (ipCells V f)) w := by
  have v0 : w.cell? ⟨B, 0, none⟩ = some (.int .i64 V) := hb.ver
  have v1 : w.cell? ⟨B, 1, none⟩ = some (.int .u8 (f 0 : Nat)) := hb.byte 0 (by decide)
  have v2 : w.cell? ⟨B, 2, none⟩ = some (.int .u8 (f 1 : Nat)) := hb.byte 1 (by decide)
  have v3 : w.cell? ⟨B, 3, none⟩ = some (.int .u8 (f 2 : Nat)) := hb.byte 2 (by decide)
  have v4 : w.cell? ⟨B, 4, none⟩ = some (.int .u8 (f 3 : Nat)) := hb.byte 3 (by decide)
  have v5 : w.cell? ⟨B, 5, none⟩ = some (.int .u8 (f 4 : Nat)) := hb.byte 4 (by decide)
  have v6 : w.cell? ⟨B, 6, none⟩ = some (.int .u8 (f 5 : Nat)) := hb.byte 5 (by decide)
  have v7 : w.cell? ⟨B, 7, none⟩ = some (.int .u8 (f 6 : Nat)) := hb.byte 6 (by decide)
  have v8 : w.cell? ⟨B, 8, none⟩ = some (.int .u8 (f 7 : Nat)) := hb.byte 7 (by decide)
  have v9 : w.cell? ⟨B, 9, none⟩ = some (.int .u8 (f 8 : Nat)) := hb.byte 8 (by decide)
  have v10 : w.cell? ⟨B, 10, none⟩ = some (.int .u8 (f 9 : Nat)) := hb.byte 9 (by decide)
  have v11 : w.cell? ⟨B, 11, none⟩ = some (.int .u8 (f 10 : Nat)) := hb.byte 10 (by decide)
  have v12 : w.cell? ⟨B, 12, none⟩ = some (.int .u8 (f 11 : Nat)) := hb.byte 11 (by decide)
  have v13 : w.cell? ⟨B, 13, none⟩ = some (.int .u8 (f 12 : Nat)) := hb.byte 12 (by decide)
  have v14 : w.cell? ⟨B, 14, none⟩ = some (.int .u8 (f 13 : Nat)) := hb.byte 13 (by decide)
  have v15 : w.cell? ⟨B, 15, none⟩ = some (.int .u8 (f 14 : Nat)) := hb.byte 14 (by decide)
  have v16 : w.cell? ⟨B, 16, none⟩ = some (.int .u8 (f 15 : Nat)) := hb.byte 15 (by decide)
  clear hb
  simp [Instr.loadAt, go_sem, v0, v1, v2, v3, v4, v5, v6, v7, v8, v9, v10, v11, v12, v13, v14, v15, v16, ipCells]
theorem wpList_load_ip {ops : Array Oper} {rest : List Oper} {o : Oper} {a : Act} {w : World} {Q : Exit → Act → World → Prop} (x : Operand) (ho : o.op = .load 28 x) (B : Nat) (V : Int) (f : Nat → Nat) (hx : a.eval x = .pointer (some ⟨B, 0, none⟩)) (hb : Boxed w B V f)
    (hw : Region.wanted o (yielded ops a.tmps) = true) (h : wpList Tryz.prog ops Q rest (a.put o.dst (.agg (ipCells V f))) w) : wpList Tryz.prog ops Q (o :: rest) a w := by
  refine wpList_step fun K hK => ?_
  rw [if_pos hw]
  have hrun : (execOp a.eval o).run Tryz.prog w = .ok (.value (.agg (ipCells V f))) w := by
    obtain ⟨dst, op, type, pos, after, guard⟩ := o
    simp only at ho
    subst ho
    simp only [execOp, Sem.run_bind, Sem.run_pure]
    rw [hx, load_ip w B V f hb]
    rfl
  unfold Oper.wp
  rw [hrun]
  exact hK _ _ h
/-- sixteen bytes, the same -/
def same16 (x y : Nat → Nat) : Bool := decide (x 0 = y 0 ∧ x 1 = y 1 ∧ x 2 = y 2 ∧ x 3 = y 3 ∧ x 4 = y 4 ∧ x 5 = y 5 ∧ x 6 = y 6 ∧ x 7 = y 7 ∧ x 8 = y 8 ∧ x 9 = y 9 ∧ x 10 = y 10 ∧ x 11 = y 11 ∧ x 12 = y 12 ∧ x 13 = y 13 ∧ x 14 = y 14 ∧ x 15 = y 15)
theorem same16_iff (x y : Nat → Nat) : same16 x y = true ↔ ∀ i, i < 16 → x i = y i := by
  simp only [same16, decide_eq_true_eq]
  constructor
  · rintro ⟨h0, h1, h2, h3, h4, h5, h6, h7, h8, h9, h10, h11, h12, h13, h14, h15⟩ i hi
    have : i = 0 ∨ i = 1 ∨ i = 2 ∨ i = 3 ∨ i = 4 ∨ i = 5 ∨ i = 6 ∨ i = 7 ∨ i = 8 ∨ i = 9 ∨ i = 10 ∨ i = 11 ∨ i = 12 ∨ i = 13 ∨ i = 14 ∨ i = 15 := by omega
    rcases this with rfl | rfl | rfl | rfl | rfl | rfl | rfl | rfl | rfl | rfl | rfl | rfl | rfl | rfl | rfl | rfl <;> assumption
  · intro h
    exact ⟨h 0 (by omega), h 1 (by omega), h 2 (by omega), h 3 (by omega), h 4 (by omega), h 5 (by omega), h 6 (by omega), h 7 (by omega), h 8 (by omega), h 9 (by omega), h 10 (by omega), h 11 (by omega), h 12 (by omega), h 13 (by omega), h 14 (by omega), h 15 (by omega)⟩
theorem Tryz.cellsIP : Tryz.prog.cellsOf 28 = 17 := by kernel_rfl
theorem Tryz.cellsA : Tryz.prog.cellsOf 26 = 16 := by kernel_rfl
theorem Tryz.cellsI : Tryz.prog.cellsOf 3 = 1 := by kernel_rfl
theorem Tryz.cellsB : Tryz.prog.cellsOf 5 = 1 := by kernel_rfl

set_option maxHeartbeats 1600000 in
set_option maxRecDepth 100000 in
theorem eq16 (x y : Nat → Nat) (w : World) (d : Nat) : (Op.equalIn (d + 2) 26 (.agg (arCells x)) (.agg (arCells y))).run Tryz.prog w = .ok (same16 x y) w := by
  have u5 := Tryz.underlying5
  have a5 := Tryz.isAgg5
  have z5 := Tryz.sizeOf5
  unfold arCells
  rw [show (d + 2 : Nat) = (d + 1) + 1 from rfl, Op.equalIn]
  simp only [Sem.run_bind, run_underlying Tryz.underlying26, Result.andThen_ok]
  simp only [Std.Legacy.Range.forIn_eq_forIn_range', Std.Legacy.Range.size, Nat.sub_zero, Nat.add_sub_cancel, Nat.div_one, List.range'_succ, List.range'_zero, List.forIn_cons, List.forIn_nil]
  go_simp
  unfold same16
  by_cases h0 : x 0 = y 0
  case neg => rw [if_neg (by omega), decide_eq_false (fun h => h0 h.1)]
  rw [if_pos (by omega)]
  by_cases h1 : x 1 = y 1
  case neg => rw [if_neg (by omega), decide_eq_false (fun h => h1 h.2.1)]
  rw [if_pos (by omega)]
  by_cases h2 : x 2 = y 2
  case neg => rw [if_neg (by omega), decide_eq_false (fun h => h2 h.2.2.1)]
  rw [if_pos (by omega)]
  by_cases h3 : x 3 = y 3
  case neg => rw [if_neg (by omega), decide_eq_false (fun h => h3 h.2.2.2.1)]
  rw [if_pos (by omega)]
  by_cases h4 : x 4 = y 4
  case neg => rw [if_neg (by omega), decide_eq_false (fun h => h4 h.2.2.2.2.1)]
  rw [if_pos (by omega)]
  by_cases h5 : x 5 = y 5
  case neg => rw [if_neg (by omega), decide_eq_false (fun h => h5 h.2.2.2.2.2.1)]
  rw [if_pos (by omega)]
  by_cases h6 : x 6 = y 6
  case neg => rw [if_neg (by omega), decide_eq_false (fun h => h6 h.2.2.2.2.2.2.1)]
  rw [if_pos (by omega)]
  by_cases h7 : x 7 = y 7
  case neg => rw [if_neg (by omega), decide_eq_false (fun h => h7 h.2.2.2.2.2.2.2.1)]
  rw [if_pos (by omega)]
  by_cases h8 : x 8 = y 8
  case neg => rw [if_neg (by omega), decide_eq_false (fun h => h8 h.2.2.2.2.2.2.2.2.1)]
  rw [if_pos (by omega)]
  by_cases h9 : x 9 = y 9
  case neg => rw [if_neg (by omega), decide_eq_false (fun h => h9 h.2.2.2.2.2.2.2.2.2.1)]
  rw [if_pos (by omega)]
  by_cases h10 : x 10 = y 10
  case neg => rw [if_neg (by omega), decide_eq_false (fun h => h10 h.2.2.2.2.2.2.2.2.2.2.1)]
  rw [if_pos (by omega)]
  by_cases h11 : x 11 = y 11
  case neg => rw [if_neg (by omega), decide_eq_false (fun h => h11 h.2.2.2.2.2.2.2.2.2.2.2.1)]
  rw [if_pos (by omega)]
  by_cases h12 : x 12 = y 12
  case neg => rw [if_neg (by omega), decide_eq_false (fun h => h12 h.2.2.2.2.2.2.2.2.2.2.2.2.1)]
  rw [if_pos (by omega)]
  by_cases h13 : x 13 = y 13
  case neg => rw [if_neg (by omega), decide_eq_false (fun h => h13 h.2.2.2.2.2.2.2.2.2.2.2.2.2.1)]
  rw [if_pos (by omega)]
  by_cases h14 : x 14 = y 14
  case neg => rw [if_neg (by omega), decide_eq_false (fun h => h14 h.2.2.2.2.2.2.2.2.2.2.2.2.2.2.1)]
  rw [if_pos (by omega)]
  by_cases h15 : x 15 = y 15
  case neg => rw [if_neg (by omega), decide_eq_false (fun h => h15 h.2.2.2.2.2.2.2.2.2.2.2.2.2.2.2)]
  rw [if_pos (by omega)]
  rw [decide_eq_true ⟨h0, h1, h2, h3, h4, h5, h6, h7, h8, h9, h10, h11, h12, h13, h14, h15⟩]
theorem Tryz.ipFields : Tryz.prog.underlying 28 = some (.struct (Tryz.prog.fieldsOf 28)) := by kernel_rfl
theorem Tryz.ipStood : Tryz.prog.stoodInHeld 28 = false := by kernel_rfl
theorem ip_part0 (V : Int) (x : Nat → Nat) (w : World) : (part 3 (ipCells V x) 0).run Tryz.prog w = .ok (.int .i64 V) w := by
  have a5 := Tryz.isAgg3
  have z5 := Tryz.sizeOf3
  unfold ipCells
  go_simp
set_option maxRecDepth 100000 in
theorem ip_part1 (V : Int) (x : Nat → Nat) (w : World) : (part 26 (ipCells V x) 1).run Tryz.prog w = .ok (.agg (arCells x)) w := by
  have a5 := Tryz.isAgg26
  have z5 := Tryz.sizeOf26
  unfold ipCells arCells
  go_simp
set_option maxHeartbeats 1600000 in
set_option maxRecDepth 100000 in
theorem eqIP (V U : Int) (x y : Nat → Nat) (w : World) (d : Nat) : (Op.equalIn (d + 3) 28 (.agg (ipCells V x)) (.agg (ipCells U y))).run Tryz.prog w = .ok (V == U && same16 x y) w := by
  rw [show (d + 3 : Nat) = (d + 2) + 1 from rfl, run_equalIn_struct w (d + 2) 28 _ _ Tryz.ipFields Tryz.ipStood]
  rw [show (Tryz.prog.fieldsOf 28).toList = [{ name := "V", type := 3, offset := 0, embedded := false, tag := "", pkgPath := "", byteOffset := 0 }, { name := "A", type := 26, offset := 1, embedded := false, tag := "", pkgPath := "", byteOffset := 8 }] from by kernel_rfl]
  simp only [Op.eqFields, Sem.run_bind, Sem.run_ite]
  rw [if_pos (by decide)]
  simp only [ip_part0, Result.andThen_ok]
  rw [show (d + 2 : Nat) = (d + 1) + 1 from rfl, run_equalIn_int w (d + 1) 3 .i64 .i64 V U Tryz.underlying3]
  cases h : V == U
  · simp
  · simp only [Result.andThen_ok, Bool.not_true, Bool.false_eq_true, if_false, ip_part1, eq16]
    cases same16 x y <;> simp
theorem eqIPtop (V U : Int) (x y : Nat → Nat) (w : World) : (Op.equalIn 10000 28 (.agg (ipCells V x)) (.agg (ipCells U y))).run Tryz.prog w = .ok (V == U && same16 x y) w := eqIP V U x y w 9997
theorem Tryz.ipGuard : Tryz.prog.eqGuardType Tryz.prog.depth 28 = false := by kernel_rfl
/-- two addresses held against each other, as one step of a walk -/
theorem wpList_neq_ip {ops : Array Oper} {rest : List Oper} {o : Oper} {a : Act} {w : World} {Q : Exit → Act → World → Prop} (X Y : Operand) (ho : o.op = .binOp .neq 28 X Y 28) (V U : Int) (x y : Nat → Nat) (hx : a.eval X = .agg (ipCells V x)) (hy : a.eval Y = .agg (ipCells U y))
    (hw : Region.wanted o (yielded ops a.tmps) = true) (h : wpList Tryz.prog ops Q rest (a.put o.dst (.bool (!(V == U && same16 x y)))) w) : wpList Tryz.prog ops Q (o :: rest) a w := by
  refine wpList_step fun K hK => ?_
  rw [if_pos hw]
  have hrun : (execOp a.eval o).run Tryz.prog w = .ok (.value (.bool (!(V == U && same16 x y)))) w := by
    obtain ⟨dst, op, type, pos, after, guard⟩ := o
    simp only at ho
    subst ho
    simp only [execOp, Sem.run_bind, Sem.run_pure, hx, hy, run_eqGuard_agg w .neq 28 _ _ _ _ Tryz.ipGuard, Result.andThen_ok, run_neq_struct, eqIPtop]
  unfold Oper.wp
  rw [hrun]
  exact hK _ _ h
theorem wpList_eql_ip {ops : Array Oper} {rest : List Oper} {o : Oper} {a : Act} {w : World} {Q : Exit → Act → World → Prop} (X Y : Operand) (ho : o.op = .binOp .eql 28 X Y 28) (V U : Int) (x y : Nat → Nat) (hx : a.eval X = .agg (ipCells V x)) (hy : a.eval Y = .agg (ipCells U y))
    (hw : Region.wanted o (yielded ops a.tmps) = true) (h : wpList Tryz.prog ops Q rest (a.put o.dst (.bool (V == U && same16 x y))) w) : wpList Tryz.prog ops Q (o :: rest) a w := by
  refine wpList_step fun K hK => ?_
  rw [if_pos hw]
  have hrun : (execOp a.eval o).run Tryz.prog w = .ok (.value (.bool (V == U && same16 x y))) w := by
    obtain ⟨dst, op, type, pos, after, guard⟩ := o
    simp only at ho
    subst ho
    simp only [execOp, Sem.run_bind, Sem.run_pure, hx, hy, run_eqGuard_agg w .eql 28 _ _ _ _ Tryz.ipGuard, Result.andThen_ok, run_eql_struct, eqIPtop]
  unfold Oper.wp
  rw [hrun]
  exact hK _ _ h

end Go.Proofs.YteldiggaooeeeaaGreatDoor
