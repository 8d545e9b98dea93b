/-
  I4Ip RtA0 RtA1 RtA2: lemmas of the proof of FlowPlays, and walks through the functions that it calls.
-/
import Derived.Deep.DeepCutAuto
import Derived.Laws.StructEq
import Derived.Lib.SmallJoins
import Derived.ProofKit
import Derived.OpenShut
import Derived.Laws.BitsAllLaws
import Derived.Deep.MidRow
import Derived.Laws.ResultCell
import Derived.Test.YtclpeepnngegaaaGreatDoorP00
namespace Go.Proofs.YtclpeepnngegaaaGreatDoor
open Go.RowKit Go.ChangeShapes Go.WideShapes
def arCells (x : Nat → Nat) : Array Value := #[.int .u8 (x 0 : Nat), .int .u8 (x 1 : Nat), .int .u8 (x 2 : Nat), .int .u8 (x 3 : Nat), .int .u8 (x 4 : Nat), .int .u8 (x 5 : Nat), .int .u8 (x 6 : Nat), .int .u8 (x 7 : Nat), .int .u8 (x 8 : Nat), .int .u8 (x 9 : Nat), .int .u8 (x 10 : Nat), .int .u8 (x 11 : Nat), .int .u8 (x 12 : Nat), .int .u8 (x 13 : Nat), .int .u8 (x 14 : Nat), .int .u8 (x 15 : Nat)]
def ipCells (V : Int) (x : Nat → Nat) : Array Value := #[.int .i64 V, .int .u8 (x 0 : Nat), .int .u8 (x 1 : Nat), .int .u8 (x 2 : Nat), .int .u8 (x 3 : Nat), .int .u8 (x 4 : Nat), .int .u8 (x 5 : Nat), .int .u8 (x 6 : Nat), .int .u8 (x 7 : Nat), .int .u8 (x 8 : Nat), .int .u8 (x 9 : Nat), .int .u8 (x 10 : Nat), .int .u8 (x 11 : Nat), .int .u8 (x 12 : Nat), .int .u8 (x 13 : Nat), .int .u8 (x 14 : Nat), .int .u8 (x 15 : Nat)]
theorem arCells_eq (x : Nat → Nat) : arCells x = ((List.range 16).map (fun i => Value.int .u8 (x i : Nat))).toArray := rfl
theorem ipCells_eq (V : Int) (x : Nat → Nat) : ipCells V x = ((Value.int .i64 V) :: (List.range 16).map (fun i => Value.int .u8 (x i : Nat))).toArray := rfl
structure Boxed (w : World) (B : Nat) (V : Int) (x : Nat → Nat) : Prop where
  ver : w.cell? ⟨B, 0, none⟩ = some (.int .i64 V)
  byte : ∀ i, i < 16 → w.cell? ⟨B, 1 + i, none⟩ = some (.int .u8 (x i : Nat))
theorem boxed_new (w : World) (V : Int) (x : Nat → Nat) (t : TypeId) : Boxed (w.alloc (.cells (ipCells V x) t)) w.heap.size V x := by
 refine ⟨by rw [World.cell?_alloc_at _ _ _ _ rfl]; rfl, fun i hi => ?_⟩
 rw [World.cell?_alloc_at _ _ _ _ rfl, ipCells_eq]
 simp [Nat.add_comm 1 i, hi]
theorem Boxed.old {w w' : World} {B : Nat} {V : Int} {x : Nat → Nat} (h : Boxed w B V x) (hb : Below w.heap.size w w') : Boxed w' B V x := by
 have hB := World.block_lt_of_cell? w _ h.ver
 exact ⟨(hb.cell (p := ⟨B, 0, none⟩) hB).trans h.ver, fun i hi => (hb.cell (p := ⟨B, 1 + i, none⟩) hB).trans (h.byte i hi)⟩
def ipL (x : Nat → Nat) (n : Nat) : List Nat := (List.range n).map x
theorem ipL_len (x : Nat → Nat) (n : Nat) : (ipL x n).length = n := by simp [ipL]
set_option maxHeartbeats 1600000 in
set_option maxRecDepth 100000 in
theorem load_ip (w : World) (B : Nat) (V : Int) (f : Nat → Nat) (hb : Boxed w B V f) : (Instr.loadAt 24 (.pointer (some ⟨B, 0, none⟩))).run Tryz.prog w = .ok (.agg (ipCells V f)) w := by
 have v0 : w.cell? ⟨B, 0, none⟩ = some (.int .i64 V) := hb.ver
 have v1 : w.cell? ⟨B, 1, none⟩ = some (.int .u8 (f 0 : Nat)) := hb.byte 0 (by decide)
 have v2 : w.cell? ⟨B, 2, none⟩ = some (.int .u8 (f 1 : Nat)) := hb.byte 1 (by decide)
 have v3 : w.cell? ⟨B, 3, none⟩ = some (.int .u8 (f 2 : Nat)) := hb.byte 2 (by decide)
 have v4 : w.cell? ⟨B, 4, none⟩ = some (.int .u8 (f 3 : Nat)) := hb.byte 3 (by decide)
 have v5 : w.cell? ⟨B, 5, none⟩ = some (.int .u8 (f 4 : Nat)) := hb.byte 4 (by decide)
 have v6 : w.cell? ⟨B, 6, none⟩ = some (.int .u8 (f 5 : Nat)) := hb.byte 5 (by decide)
 have v7 : w.cell? ⟨B, 7, none⟩ = some (.int .u8 (f 6 : Nat)) := hb.byte 6 (by decide)
 have v8 : w.cell? ⟨B, 8, none⟩ = some (.int .u8 (f 7 : Nat)) := hb.byte 7 (by decide)
 have v9 : w.cell? ⟨B, 9, none⟩ = some (.int .u8 (f 8 : Nat)) := hb.byte 8 (by decide)
 have v10 : w.cell? ⟨B, 10, none⟩ = some (.int .u8 (f 9 : Nat)) := hb.byte 9 (by decide)
 have v11 : w.cell? ⟨B, 11, none⟩ = some (.int .u8 (f 10 : Nat)) := hb.byte 10 (by decide)
 have v12 : w.cell? ⟨B, 12, none⟩ = some (.int .u8 (f 11 : Nat)) := hb.byte 11 (by decide)
 have v13 : w.cell? ⟨B, 13, none⟩ = some (.int .u8 (f 12 : Nat)) := hb.byte 12 (by decide)
 have v14 : w.cell? ⟨B, 14, none⟩ = some (.int .u8 (f 13 : Nat)) := hb.byte 13 (by decide)
 have v15 : w.cell? ⟨B, 15, none⟩ = some (.int .u8 (f 14 : Nat)) := hb.byte 14 (by decide)
 have v16 : w.cell? ⟨B, 16, none⟩ = some (.int .u8 (f 15 : Nat)) := hb.byte 15 (by decide)
 clear hb
 simp [Instr.loadAt, go_sem, v0, v1, v2, v3, v4, v5, v6, v7, v8, v9, v10, v11, v12, v13, v14, v15, v16, ipCells]
theorem wpList_load_ip {ops : Array Oper} {rest : List Oper} {o : Oper} {a : Act} {w : World} {Q : Exit → Act → World → Prop} (x : Operand) (ho : o.op = .load 24 x) (B : Nat) (V : Int) (f : Nat → Nat) (hx : a.eval x = .pointer (some ⟨B, 0, none⟩)) (hb : Boxed w B V f)
 (hw : Region.wanted o (yielded ops a.tmps) = true) (h : wpList Tryz.prog ops Q rest (a.put o.dst (.agg (ipCells V f))) w) : wpList Tryz.prog ops Q (o :: rest) a w := by
 refine wpList_step fun K hK => ?_
 rw [if_pos hw]
 have hrun : (execOp a.eval o).run Tryz.prog w = .ok (.value (.agg (ipCells V f))) w := by
  obtain ⟨dst, op, type, pos, after, guard⟩ := o
  simp only at ho
  subst ho
  simp only [execOp, Sem.run_bind, Sem.run_pure]
  rw [hx, load_ip w B V f hb]
  rfl
 unfold Oper.wp
 rw [hrun]
 exact hK _ _ h
def same16 (x y : Nat → Nat) : Bool := decide (x 0 = y 0 ∧ x 1 = y 1 ∧ x 2 = y 2 ∧ x 3 = y 3 ∧ x 4 = y 4 ∧ x 5 = y 5 ∧ x 6 = y 6 ∧ x 7 = y 7 ∧ x 8 = y 8 ∧ x 9 = y 9 ∧ x 10 = y 10 ∧ x 11 = y 11 ∧ x 12 = y 12 ∧ x 13 = y 13 ∧ x 14 = y 14 ∧ x 15 = y 15)
theorem same16_iff (x y : Nat → Nat) : same16 x y = true ↔ ∀ i, i < 16 → x i = y i := by
 simp only [same16, decide_eq_true_eq]
 constructor
 · rintro ⟨h0, h1, h2, h3, h4, h5, h6, h7, h8, h9, h10, h11, h12, h13, h14, h15⟩ i hi
   have : i = 0 ∨ i = 1 ∨ i = 2 ∨ i = 3 ∨ i = 4 ∨ i = 5 ∨ i = 6 ∨ i = 7 ∨ i = 8 ∨ i = 9 ∨ i = 10 ∨ i = 11 ∨ i = 12 ∨ i = 13 ∨ i = 14 ∨ i = 15 := by omega
   rcases this with rfl | rfl | rfl | rfl | rfl | rfl | rfl | rfl | rfl | rfl | rfl | rfl | rfl | rfl | rfl | rfl <;> assumption
 · intro h
   exact ⟨h 0 (by omega), h 1 (by omega), h 2 (by omega), h 3 (by omega), h 4 (by omega), h 5 (by omega), h 6 (by omega), h 7 (by omega), h 8 (by omega), h 9 (by omega), h 10 (by omega), h 11 (by omega), h 12 (by omega), h 13 (by omega), h 14 (by omega), h 15 (by omega)⟩
set_option maxHeartbeats 1600000 in
set_option maxRecDepth 100000 in
theorem eq16 (x y : Nat → Nat) (w : World) (d : Nat) : (Op.equalIn (d + 2) 22 (.agg (arCells x)) (.agg (arCells y))).run Tryz.prog w = .ok (same16 x y) w := by
 have u5 := Tryz.underlying5
 have a5 := Tryz.isAgg5
 have z5 := Tryz.sizeOf5
 unfold arCells
 rw [show (d + 2 : Nat) = (d + 1) + 1 from rfl, Op.equalIn]
 simp only [Sem.run_bind, run_underlying Tryz.underlying22, Result.andThen_ok]
 simp only [Std.Legacy.Range.forIn_eq_forIn_range', Std.Legacy.Range.size, Nat.sub_zero, Nat.add_sub_cancel, Nat.div_one, List.range'_succ, List.range'_zero, List.forIn_cons, List.forIn_nil]
 go_simp
 unfold same16
 by_cases h0 : x 0 = y 0
 case neg => rw [if_neg (by omega), decide_eq_false (fun h => h0 h.1)]
 rw [if_pos (by omega)]
 by_cases h1 : x 1 = y 1
 case neg => rw [if_neg (by omega), decide_eq_false (fun h => h1 h.2.1)]
 rw [if_pos (by omega)]
 by_cases h2 : x 2 = y 2
 case neg => rw [if_neg (by omega), decide_eq_false (fun h => h2 h.2.2.1)]
 rw [if_pos (by omega)]
 by_cases h3 : x 3 = y 3
 case neg => rw [if_neg (by omega), decide_eq_false (fun h => h3 h.2.2.2.1)]
 rw [if_pos (by omega)]
 by_cases h4 : x 4 = y 4
 case neg => rw [if_neg (by omega), decide_eq_false (fun h => h4 h.2.2.2.2.1)]
 rw [if_pos (by omega)]
 by_cases h5 : x 5 = y 5
 case neg => rw [if_neg (by omega), decide_eq_false (fun h => h5 h.2.2.2.2.2.1)]
 rw [if_pos (by omega)]
 by_cases h6 : x 6 = y 6
 case neg => rw [if_neg (by omega), decide_eq_false (fun h => h6 h.2.2.2.2.2.2.1)]
 rw [if_pos (by omega)]
 by_cases h7 : x 7 = y 7
 case neg => rw [if_neg (by omega), decide_eq_false (fun h => h7 h.2.2.2.2.2.2.2.1)]
 rw [if_pos (by omega)]
 by_cases h8 : x 8 = y 8
 case neg => rw [if_neg (by omega), decide_eq_false (fun h => h8 h.2.2.2.2.2.2.2.2.1)]
 rw [if_pos (by omega)]
 by_cases h9 : x 9 = y 9
 case neg => rw [if_neg (by omega), decide_eq_false (fun h => h9 h.2.2.2.2.2.2.2.2.2.1)]
 rw [if_pos (by omega)]
 by_cases h10 : x 10 = y 10
 case neg => rw [if_neg (by omega), decide_eq_false (fun h => h10 h.2.2.2.2.2.2.2.2.2.2.1)]
 rw [if_pos (by omega)]
 by_cases h11 : x 11 = y 11
 case neg => rw [if_neg (by omega), decide_eq_false (fun h => h11 h.2.2.2.2.2.2.2.2.2.2.2.1)]
 rw [if_pos (by omega)]
 by_cases h12 : x 12 = y 12
 case neg => rw [if_neg (by omega), decide_eq_false (fun h => h12 h.2.2.2.2.2.2.2.2.2.2.2.2.1)]
 rw [if_pos (by omega)]
 by_cases h13 : x 13 = y 13
 case neg => rw [if_neg (by omega), decide_eq_false (fun h => h13 h.2.2.2.2.2.2.2.2.2.2.2.2.2.1)]
 rw [if_pos (by omega)]
 by_cases h14 : x 14 = y 14
 case neg => rw [if_neg (by omega), decide_eq_false (fun h => h14 h.2.2.2.2.2.2.2.2.2.2.2.2.2.2.1)]
 rw [if_pos (by omega)]
 by_cases h15 : x 15 = y 15
 case neg => rw [if_neg (by omega), decide_eq_false (fun h => h15 h.2.2.2.2.2.2.2.2.2.2.2.2.2.2.2)]
 rw [if_pos (by omega)]
 rw [decide_eq_true ⟨h0, h1, h2, h3, h4, h5, h6, h7, h8, h9, h10, h11, h12, h13, h14, h15⟩]
theorem Tryz.ipFields : Tryz.prog.underlying 24 = some (.struct (Tryz.prog.fieldsOf 24)) := by kernel_rfl
theorem Tryz.ipStood : Tryz.prog.stoodInHeld 24 = false := by kernel_rfl
theorem ip_part0 (V : Int) (x : Nat → Nat) (w : World) : (part 3 (ipCells V x) 0).run Tryz.prog w = .ok (.int .i64 V) w := by
 have a5 := Tryz.isAgg3
 have z5 := Tryz.sizeOf3
 unfold ipCells
 go_simp
set_option maxRecDepth 100000 in
theorem ip_part1 (V : Int) (x : Nat → Nat) (w : World) : (part 22 (ipCells V x) 1).run Tryz.prog w = .ok (.agg (arCells x)) w := by
 have a5 := Tryz.isAgg22
 have z5 := Tryz.sizeOf22
 unfold ipCells arCells
 go_simp
set_option maxHeartbeats 1600000 in
set_option maxRecDepth 100000 in
theorem eqIP (V U : Int) (x y : Nat → Nat) (w : World) (d : Nat) : (Op.equalIn (d + 3) 24 (.agg (ipCells V x)) (.agg (ipCells U y))).run Tryz.prog w = .ok (V == U && same16 x y) w := by
 rw [show (d + 3 : Nat) = (d + 2) + 1 from rfl, run_equalIn_struct w (d + 2) 24 _ _ Tryz.ipFields Tryz.ipStood]
 rw [show (Tryz.prog.fieldsOf 24).toList = [{ name := "V", type := 3, offset := 0, embedded := false, tag := "", pkgPath := "", byteOffset := 0 }, { name := "A", type := 22, offset := 1, embedded := false, tag := "", pkgPath := "", byteOffset := 8 }] from by kernel_rfl]
 simp only [Op.eqFields, Sem.run_bind, Sem.run_ite]
 rw [if_pos (by decide)]
 simp only [ip_part0, Result.andThen_ok]
 rw [show (d + 2 : Nat) = (d + 1) + 1 from rfl, run_equalIn_int w (d + 1) 3 .i64 .i64 V U Tryz.underlying3]
 cases h : V == U
 · simp
 · simp only [Result.andThen_ok, Bool.not_true, Bool.false_eq_true, if_false, ip_part1, eq16]
   cases same16 x y <;> simp
theorem eqIPtop (V U : Int) (x y : Nat → Nat) (w : World) : (Op.equalIn 10000 24 (.agg (ipCells V x)) (.agg (ipCells U y))).run Tryz.prog w = .ok (V == U && same16 x y) w := eqIP V U x y w 9997
end Go.Proofs.YtclpeepnngegaaaGreatDoor
namespace Go.Proofs.YtclpeepnngegaaaGreatDoor
open Go.RowKit
def mkA (n i : Nat) : Nat := 255 * 2 ^ (8 - (n - 8 * i)) % 256
def hdA (x : Nat → Nat) (n i : Nat) : Nat := if 8 * (i + 1) ≤ n then x i else x i &&& mkA n i
def hdK (x : Nat → Nat) (n k i : Nat) : Nat := if i < k then hdA x n i else x i
theorem hdK_zero (x : Nat → Nat) (n : Nat) : hdK x n 0 = x := by funext i; simp [hdK]
theorem hdK_keep (x : Nat → Nat) (n k : Nat) (h : 8 * (k + 1) ≤ n) : hdK x n (k + 1) = hdK x n k := by
 funext i
 unfold hdK
 by_cases h1 : i < k
 · rw [if_pos h1, if_pos (by omega)]
 · by_cases h2 : i = k
   · subst h2; rw [if_pos (by omega), if_neg h1]; unfold hdA; rw [if_pos h]
   · rw [if_neg (by omega), if_neg h1]
theorem hdK_all (x : Nat → Nat) (n : Nat) : arCells (hdK x n 16) = arCells (hdA x n) := by
 simp [arCells, hdK]
def ArAt (w : World) (O : Nat) (C : Array Value) : Prop := w.heap[O]? = some (.cells C 22 (0, 0))
theorem ArAt.lt {w : World} {O : Nat} {C : Array Value} (k : ArAt w O C) : O < w.heap.size := (Array.getElem?_eq_some_iff.1 k).1
theorem ArAt.below {w w' : World} {O : Nat} {C : Array Value} (k : ArAt w O C) (h : Below w.heap.size w w') : ArAt w' O C := (h.block O k.lt).trans k
theorem ArAt.ch {S : Nat → Prop} {w w' : World} {O : Nat} {C : Array Value} (k : ArAt w O C) (h : Ch S w w') (hS : ¬ S O) : ArAt w' O C := (h.block O k.lt hS).trans k
theorem ArAt.cell {w : World} {O : Nat} {C : Array Value} (k : ArAt w O C) (i : Nat) : w.cell? ⟨O, i, none⟩ = C[i]? := by unfold ArAt at k; simp [World.cell?, k]
theorem arAt_new (w : World) (C : Array Value) : ArAt (w.alloc (.cells C 22)) w.heap.size C := heap_alloc_new _ _
theorem ar_get (x : Nat → Nat) (i : Nat) (h : i < 16) : (arCells x)[i]? = some (.int .u8 (x i : Nat)) := by
 rw [arCells_eq]; simp [h]
theorem ArAt.get {w : World} {O : Nat} {x : Nat → Nat} (k : ArAt w O (arCells x)) (i : Nat) (h : i < 16) : w.cell? ⟨O, i, none⟩ = some (.int .u8 (x i : Nat)) := (k.cell i).trans (ar_get x i h)
theorem ar_set (x y : Nat → Nat) (k : Nat) (h : k < 16) (hy : ∀ i, i ≠ k → y i = x i) : (arCells x).setIfInBounds k (.int .u8 (y k : Nat)) = arCells y := by
 rw [arCells_eq, arCells_eq]
 have e : ∀ i, i < 16 → i ≠ k → (Value.int .u8 (x i : Nat)) = .int .u8 (y i : Nat) := fun i _ hi => by rw [hy i hi]
 apply Array.ext_getElem?
 intro i
 rw [Array.getElem?_setIfInBounds]
 by_cases h2 : k = i
 · subst h2; simp [h]
 · rw [if_neg h2]
   by_cases h1 : i < 16
   · simp [h1, hy i (fun e => h2 e.symm)]
   · simp [h1]
theorem ArAt.put {w : World} {O : Nat} {x y : Nat → Nat} (k : ArAt w O (arCells x)) (i : Nat) (h : i < 16) (hy : ∀ j, j ≠ i → y j = x j) : ArAt (w.setCell ⟨O, i, none⟩ (.int .u8 (y i : Nat))) O (arCells y) ∧ Ch (fun q => q = O) w (w.setCell ⟨O, i, none⟩ (.int .u8 (y i : Nat))) := by
 refine ⟨?_, (Ch.refl (fun q => q = O) w).set _ _ rfl⟩
 unfold ArAt at k ⊢
 rw [Go.heap_setCell_same _ _ _ _ _ _ k, ar_set x y i h hy]
theorem Tryz.sizeAr : (Tryz.prog.info? 22).map (·.size) = some 16 := by kernel_rfl
theorem wpList_load_ar {ops : Array Oper} {rest : List Oper} {o : Oper} {a : Act} {w : World} {Q : Exit → Act → World → Prop} (x : Operand) (ho : o.op = .load 22 x) (O off : Nat) (y : Nat → Nat) (hx : a.eval x = .pointer (some ⟨O, off, none⟩)) (hb : w.rangeAt O off (arCells y).toList)
 (hw : Region.wanted o (yielded ops a.tmps) = true) (h : wpList Tryz.prog ops Q rest (a.put o.dst (.agg (arCells y))) w) : wpList Tryz.prog ops Q (o :: rest) a w := by
 refine wpList_step fun K hK => ?_
 rw [if_pos hw]
 exact wp_load_mid 22 x ho O off hx (arCells y).toList _ hb Tryz.underlying22 rfl Tryz.sizeAr (hK _ _ h)
theorem ArAt.range {w : World} {O : Nat} {x : Nat → Nat} (k : ArAt w O (arCells x)) : w.rangeAt O 0 (arCells x).toList := by
 intro j v hv
 rw [Nat.zero_add, k.cell]
 simpa using hv
theorem wpList_store_ar {ops : Array Oper} {rest : List Oper} {o : Oper} {a : Act} {w : World} {Q : Exit → Act → World → Prop} (x y : Operand) (ho : o.op = .store 22 x y) (hd : o.dst = none) (O : Nat) (f g : Nat → Nat) (hx : a.eval x = .pointer (some ⟨O, 0, none⟩)) (hy : a.eval y = .agg (arCells g)) (hb : ArAt w O (arCells f))
 (hw : Region.wanted o (yielded ops a.tmps) = true) (hh : ∀ w', ArAt w' O (arCells g) → Ch (fun q => q = O) w w' → wpList Tryz.prog ops Q rest a w') : wpList Tryz.prog ops Q (o :: rest) a w := by
 refine wpList_step fun K hK => ?_
 rw [if_pos hw]
 refine wp_store_row 22 x y ho O (arCells g) hx hy _ (arCells f) hb Tryz.sizeAr rfl (by simp [arCells, Value.oneCell']) (hK _ _ ?_)
 rw [hd]
 refine hh _ (setRow_heap w O _ _ _ _ hb) ⟨rfl, rfl, rfl, ?_, ?_⟩
 · simp [World.setRow]
 · intro k hk hne
   simp only [World.setRow]
   rw [Array.getElem?_modify, if_neg (fun e => hne e.symm)]
theorem results_ar {fn : Func} {p : Tmp} (h : fn.results = #[.cell p 22]) (tmps : Array Value) (w : World) (O : Nat) (x : Nat → Nat) (hp : tmps.getD p undef = .pointer (some ⟨O, 0, none⟩)) (hb : ArAt w O (arCells x)) :
 (results fn tmps).run Tryz.prog w = .ok (.agg (arCells x)) w :=
 results_cell_row h tmps w O _ (arCells x) _ _ hp hb Tryz.underlying22 rfl Tryz.sizeAr
theorem hdK_step (x : Nat → Nat) (n k i : Nat) (h : i ≠ k) : hdK x n (k + 1) i = hdK x n k i := by
 unfold hdK
 by_cases h1 : i < k
 · rw [if_pos h1, if_pos (by omega)]
 · rw [if_neg (by omega), if_neg h1]
theorem hdK_at (x : Nat → Nat) (n k : Nat) (h : ¬ 8 * (k + 1) ≤ n) : hdK x n (k + 1) k = hdK x n k k &&& mkA n k := by
 unfold hdK
 rw [if_pos (by omega), if_neg (by omega)]
 unfold hdA
 rw [if_neg h]
theorem mkA_lt (n i : Nat) : mkA n i < 256 := Nat.mod_lt _ (by decide)
end Go.Proofs.YtclpeepnngegaaaGreatDoor
namespace Go.Proofs.YtclpeepnngegaaaGreatDoor
open Go.RowKit
theorem i64_s (a : Int) (h1 : -1000000 ≤ a) (h2 : a ≤ 1000000) : IntKind.i64.wrap a = a := by rw [IntKind.wrap_i64 a]; omega
theorem ArAt.fz {w : World} {O : Nat} {C : Array Value} (k : ArAt w O C) (i : Nat) : w.frozen? ⟨O, i, none⟩ = false := by unfold ArAt at k; simp [World.frozen?, k]
theorem mask_eq (n k z : Nat) (hz : z < 256) : bits .and .u8 (z : Int) (255 * 2 ^ (8 - if (n : Int) - 8 * (k : Int) < 0 then 0 else (n : Int) - 8 * (k : Int)).toNat % 256) = ((z &&& mkA n k : Nat) : Int) := by
 have e : (255 * 2 ^ (8 - if (n : Int) - 8 * (k : Int) < 0 then 0 else (n : Int) - 8 * (k : Int)).toNat % 256 : Int) = ((mkA n k : Nat) : Int) := by
  have : (8 - if (n : Int) - 8 * (k : Int) < 0 then 0 else (n : Int) - 8 * (k : Int)).toNat = 8 - (n - 8 * k) := by split <;> omega
  rw [this]
  simp [mkA]
 rw [e, u8_and_nat z _ hz (mkA_lt n k)]
theorem hdK_lt (x : Nat → Nat) (n k i : Nat) (h : x i < 256) : hdK x n k i < 256 := by
 unfold hdK hdA
 split
 · split
   · exact h
   · exact Nat.lt_of_le_of_lt Nat.and_le_left h
 · exact h
set_option maxHeartbeats 1600000 in
set_option maxRecDepth 100000 in
theorem head_any (x : Nat → Nat) (n : Nat) (w : World) (hn : n ≤ 128) (hx : ∀ i, i < 16 → x i < 256) : Calls Tryz.prog 64 #[.agg (arCells x), .int .i64 n] w fun e w' => e = .returned (.agg (arCells (hdA x n))) ∧ Below w.heap.size w w' := by
 obtain ⟨C, hC⟩ : ∃ C, C = arCells x := ⟨_, rfl⟩
 have ha := arAt_new w C
 have hr := arAt_new (w.alloc (.cells C 22)) (arCells (fun _ => 0))
 rw [World.size_alloc] at hr
 have bel : Below w.heap.size w ((w.alloc (.cells C 22)).alloc (.cells (arCells (fun _ => 0)) 22)) := ((Below.refl _ _).alloc (Nat.le_refl _) _).alloc (by simp) _
 have ha2 := ha.below ((Below.refl _ _).alloc (Nat.le_refl _) (.cells (arCells (fun _ => 0)) 22))
 obtain ⟨W, hW⟩ : ∃ W, W = (w.alloc (.cells C 22)).alloc (.cells (arCells (fun _ => 0)) 22) := ⟨_, rfl⟩
 rw [← hW] at hr bel ha2
 obtain ⟨B, hB⟩ : ∃ B, B = w.heap.size := ⟨_, rfl⟩
 rw [← hB] at hr ha2
 have HB : Hid (w.heap.size = B) := hB.symm
 have HW : Hid ((w.alloc (.cells C 22)).alloc (.cells #[.int .u8 0, .int .u8 0, .int .u8 0, .int .u8 0, .int .u8 0, .int .u8 0, .int .u8 0, .int .u8 0, .int .u8 0, .int .u8 0, .int .u8 0, .int .u8 0, .int .u8 0, .int .u8 0, .int .u8 0, .int .u8 0] 22) = W) := hW.symm
 have HR : Hid (ArAt W (B + 1) (arCells (fun _ => 0))) := hr
 have HA : Hid (ArAt W B (arCells (hdK x n 0))) := by rw [hdK_zero, ← hC]; exact ha2
 have HX : Hid (∀ i, i < 16 → x i < 256) := hx
 have HN : Hid (n ≤ 128) := hn
 rw [← hC]
 clear ha hr ha2 hW hB hC hx hn
 go_enter Tryz.func64, Tryz.ntmps64
 go_wp2
 rw [HB.out, HW.out]
 go_loopw [7] (fun ix wr => ∃ k : Nat, k ≤ 16 ∧ ix = .int .i64 k ∧ ArAt wr B (arCells (hdK x n k)) ∧ ArAt wr (B + 1) (arCells (fun _ => 0)) ∧ Below w.heap.size w wr) (fun ix _ => 16 - (intOf ix).toNat)
 case atStart => exact ⟨0, by omega, rfl, HA.out, HR.out, bel⟩
 case round =>
  obtain ⟨k, hk, rfl, hA, hR, hbel⟩ := hrel
  have HA2 : Hid (ArAt wr B (arCells (hdK x n k))) := hA
  have HR2 : Hid (ArAt wr (B + 1) (arCells (fun _ => 0))) := hR
  clear hA hR
  by_cases hk16 : k < 16
  · have w1 : IntKind.i64.wrap ((k : Int) + 1) = (k : Int) + 1 := i64_s _ (by omega) (by omega)
    have w8 : IntKind.i64.wrap (8 * (k : Int)) = 8 * (k : Int) := i64_s _ (by omega) (by omega)
    have wn : IntKind.i64.wrap ((n : Int) - 8 * (k : Int)) = (n : Int) - 8 * (k : Int) := i64_s _ (by have := HN.out; omega) (by have := HN.out; omega)
    have l16 : (k : Int) < 16 := by omega
    by_cases h8 : 8 * (k + 1) ≤ n
    · have d8 : decide ((n : Int) - 8 * (k : Int) < 8) = false := decide_eq_false (by omega)
      have HK : Hid (hdK x n (k + 1) = hdK x n k) := hdK_keep x n k h8
      clear h8
      go_wp2
      go_roundw
      case rel => exact ⟨k + 1, by omega, by simp, by rw [HK.out]; exact HA2.out, HR2.out, hbel⟩
      case measure => simp [intOf]; omega
    · have d8 : decide ((n : Int) - 8 * (k : Int) < 8) = true := decide_eq_true (by omega)
      have h0 := HA2.out.get k hk16
      have HZ : Hid (bits .and .u8 ((hdK x n k k : Nat) : Int) (255 * 2 ^ (8 - if (n : Int) - 8 * (k : Int) < 0 then 0 else (n : Int) - 8 * (k : Int)).toNat % 256) = ((hdK x n (k + 1) k : Nat) : Int)) := by
       rw [hdK_at x n k h8]; exact mask_eq n k _ (hdK_lt x n k k (HX.out k hk16))
      have hf : wr.frozen? ⟨B, k, none⟩ = false := HA2.out.fz k
      have HP := HA2.out.put k hk16 (y := hdK x n (k + 1)) (fun j hj => hdK_step x n k j hj)
      have HPH : Hid _ := HP
      clear HP
      go_wp2
      go_region
      rw [HZ.out]
      obtain ⟨wS, hwS⟩ : ∃ wS, wS = wr.setCell ⟨B, k, none⟩ (.int .u8 (hdK x n (k + 1) k : Nat)) := ⟨_, rfl⟩
      have HPP := HPH.out
      rw [← hwS] at HPP ⊢
      have hbS : Below w.heap.size w wS := hbel.trans (HPP.2.below (fun q e => by have e' : q = B := e; have := HB.out; omega) hbel.size)
      have hbd : Below wS.heap.size wS wS.drew := (Below.refl _ _).drew
      have HA3 : Hid (ArAt wS.drew B (arCells (hdK x n (k + 1)))) := HPP.1.below hbd
      have HR3 : Hid (ArAt wS.drew (B + 1) (arCells (fun _ => 0))) := (HR2.out.ch HPP.2 (fun e => by have e' : B + 1 = B := e; omega)).below hbd
      have hbD := hbS.trans (hbd.mono hbS.size)
      clear HPP HPH hwS hf HZ h0 HA2 HR2 hbd hbS
      go_wp2
      go_roundw
      case rel => exact ⟨k + 1, by omega, by simp, HA3.out, HR3.out, hbD⟩
      case measure => simp [intOf]; omega
  · have e : k = 16 := by omega
    subst e
    have HRG : Hid (wr.rangeAt B 0 (arCells (hdK x n 16)).toList) := HA2.out.range
    go_wp2_with (first | (refine wpList_load_ar (.tmp 2) rfl B 0 (hdK x n 16) rfl HRG.out rfl ?_) | (refine wpList_store_ar (.tmp 4) (.tmp 26) rfl rfl (B + 1) (fun _ => 0) (hdK x n 16) rfl rfl HR2.out rfl ?_))
    intro wE hRE kE
    have HRE : Hid (ArAt wE (B + 1) (arCells (hdK x n 16))) := hRE
    have HFE : Hid (Below w.heap.size w wE) := hbel.trans (kE.below (fun q e => by have e' : q = B + 1 := e; have := HB.out; omega) hbel.size)
    clear hRE kE
    go_wp2
    (try simp only [Exit.inBlock, Exit.then])
    refine bodyPost_ret (results_ar rfl _ _ (B + 1) (hdK x n 16) rfl HRE.out) rfl ?_
    exact ⟨by rw [hdK_all], HFE.out⟩
end Go.Proofs.YtclpeepnngegaaaGreatDoor
namespace Go.Proofs.YtclpeepnngegaaaGreatDoor
open Go.RowKit
theorem bthen {a b c : World} (h : Below a.heap.size a b) (k : Below b.heap.size b c) : Below a.heap.size a c := h.trans (k.mono h.size)
theorem yields_int {ops : Array Oper} {o : Oper} {a : Act} {S : World → Prop} (x : Operand) (ho : o.op = .load 3 x) (p : Addr) (u : Value) (hx : a.eval x = .pointer (some p)) (hw : Region.wanted o (yielded ops a.tmps) = true) (hS : ∀ w, S w → w.cell? p = some u) : YieldsIf Tryz.prog ops S o u a := by
 refine .inl ⟨hw, fun w hb => ?_⟩
 have hc := hS w hb
 have hu := Tryz.underlying3
 obtain ⟨dst, op, type, pos, after, guard⟩ := o
 simp only at ho
 subst ho
 simp only [execOp, Sem.run_bind, Sem.run_pure]
 rw [hx]
 simp [Instr.loadAt, go_sem, hc]
theorem yields_ar {ops : Array Oper} {o : Oper} {a : Act} {S : World → Prop} (x : Operand) (ho : o.op = .load 22 x) (O off : Nat) (y : Nat → Nat) (hx : a.eval x = .pointer (some ⟨O, off, none⟩)) (hw : Region.wanted o (yielded ops a.tmps) = true) (hS : ∀ w, S w → w.rangeAt O off (arCells y).toList) : YieldsIf Tryz.prog ops S o (.agg (arCells y)) a :=
 yieldsIf_load_mid hw 22 x ho O off hx (arCells y).toList _ hS Tryz.underlying22 rfl Tryz.sizeAr
theorem Tryz.arGuard : Tryz.prog.eqGuardType Tryz.prog.depth 22 = false := by kernel_rfl
theorem yields_eql_ar {ops : Array Oper} {o : Oper} {a : Act} {S : World → Prop} (X Y : Operand) (ho : o.op = .binOp .eql 22 X Y 22) (x y : Nat → Nat) (hx : a.eval X = .agg (arCells x)) (hy : a.eval Y = .agg (arCells y)) (hw : Region.wanted o (yielded ops a.tmps) = true) : YieldsIf Tryz.prog ops S o (.bool (same16 x y)) a := by
 refine .inl ⟨hw, fun w _ => ?_⟩
 obtain ⟨dst, op, type, pos, after, guard⟩ := o
 simp only at ho
 subst ho
 simp only [execOp, Sem.run_bind, Sem.run_pure, hx, hy, run_eqGuard_agg w .eql 22 _ _ _ _ Tryz.arGuard, Result.andThen_ok, run_eql_struct, eq16 x y w 9998]
theorem Boxed.range {w : World} {B : Nat} {V : Int} {x : Nat → Nat} (h : Boxed w B V x) : w.rangeAt B 1 (arCells x).toList := by
 intro j v hv
 have hl : j < 16 := (List.getElem?_eq_some_iff.1 hv).1
 rw [h.byte j hl]
 have := ar_get x j hl
 rw [← Array.getElem?_toList, hv] at this
 exact this.symm
def vld (V : Int) (x : Nat → Nat) : Bool := V == 6 || (V == 4 && same16 (hdA x 32) x)
set_option maxHeartbeats 1600000 in
set_option maxRecDepth 100000 in
theorem valid_any (V : Int) (x : Nat → Nat) (w : World) (hx : ∀ i, i < 16 → x i < 256) : Calls Tryz.prog 63 #[.agg (ipCells V x)] w fun e w' => e = .returned (.bool (vld V x)) ∧ Below w.heap.size w w' := by
 have hb := boxed_new w V x 24
 have bel : Below w.heap.size w (w.alloc (.cells (ipCells V x) 24)) := (Below.refl _ _).alloc (Nat.le_refl _) _
 obtain ⟨C, hC⟩ : ∃ C, C = ipCells V x := ⟨_, rfl⟩
 rw [← hC] at hb bel
 obtain ⟨W, hW⟩ : ∃ W, W = w.alloc (.cells C 24) := ⟨_, rfl⟩
 rw [← hW] at hb bel
 obtain ⟨B, hB⟩ : ∃ B, B = w.heap.size := ⟨_, rfl⟩
 rw [← hB] at hb
 have HB : Hid (w.heap.size = B) := hB.symm
 have HW : Hid (w.alloc (.cells C 24) = W) := hW.symm
 have HBX : Hid (Boxed W B V x) := hb
 have HX : Hid (∀ i, i < 16 → x i < 256) := hx
 have k0 : W.cell? ⟨B, 0, none⟩ = some (.int .i64 V) := hb.ver
 rw [← hC]
 clear hb hW hB hC hx
 go_enter Tryz.func63, Tryz.ntmps63
 go_upto_region 1 with fail
 rw [HB.out, HW.out]
 by_cases h6 : V = 6
 · subst h6
   go_region
   go_wp2
   go_ret
   exact ⟨by simp [vld], bel.drew⟩
 · by_cases h4 : V = 4
   · subst h4
     clear h6 k0
     refine MixH.start (fun A => Below W.heap.size W A) (by kernel_rfl) ?_
     obtain ⟨wA, hwA⟩ : ∃ wA, wA = W.drew := ⟨_, rfl⟩
     have hS := zDr hwA
     rw [← hwA]
     clear hwA
     refine MixH.tks [true] 16 hS (fun K hK => ?_)
     simp only [Mix.pick]
     repeat (go_big_quiet_step (fail))
     refine wpQuiet_nil (hK _ ?_)
     clear hK K
     refine MixH.tk 15 1 rfl (.int .i64 4) (yields_int (.tmp 3) rfl ⟨B, 0, none⟩ _ rfl rfl (fun A hA => (HBX.out.old hA).ver)) hS (fun a' ha => ?_)
     simp only [zP1, zP2, zP3, zP4] at ha
     subst ha
     refine MixH.tks [false, false, true, true] 13 hS (fun K hK => ?_)
     simp only [Mix.pick]
     repeat (go_big_quiet_step (fail))
     refine wpQuiet_nil (hK _ ?_)
     clear hK K
     refine MixH.tks [false, false, false, false, true] 12 hS (fun K hK => ?_)
     simp only [Mix.pick]
     repeat (go_big_quiet_step (fail))
     refine wpQuiet_nil (hK _ ?_)
     clear hK K
     refine MixH.tk 11 5 rfl (.int .i64 4) (yields_int (.tmp 7) rfl ⟨B, 0, none⟩ _ rfl rfl (fun A hA => (HBX.out.old hA).ver)) hS (fun a' ha => ?_)
     simp only [zP1, zP2, zP3, zP4] at ha
     subst ha
     refine MixH.tks [false, false, false, false, false, false, true, true] 9 hS (fun K hK => ?_)
     simp only [Mix.pick]
     repeat (go_big_quiet_step (fail))
     refine wpQuiet_nil (hK _ ?_)
     clear hK K
     refine MixH.tks [false, false, false, false, false, false, false, false, true, false, false, true] 7 hS (fun K hK => ?_)
     simp only [Mix.pick]
     repeat (go_big_quiet_step (fail))
     refine wpQuiet_nil (hK _ ?_)
     clear hK K
     refine MixH.tk 6 9 rfl (.agg (arCells x)) (yields_ar (.tmp 11) rfl B 1 x rfl rfl (fun A hA => (HBX.out.old hA).range)) hS (fun a' ha => ?_)
     simp only [zP1, zP2, zP3, zP4] at ha
     subst ha
     refine MixH.tk 5 12 rfl (.agg (arCells x)) (yields_ar (.tmp 14) rfl B 1 x rfl rfl (fun A hA => (HBX.out.old hA).range)) hS (fun a' ha => ?_)
     simp only [zP1, zP2, zP3, zP4] at ha
     subst ha
     refine MixH.one [false, false, false, false, false, false, false, false, false, false, true] 4 10 _ rfl rfl (by kernel_rfl) (by kernel_rfl) (fun K hK => ?_)
     simp only [Mix.pick]
     go_wp2_with fail
     refine Calls.mono (head_any x 32 wA (by decide) HX.out) ?_
     rintro e w4 ⟨rfl, hb4⟩
     have hS4 : Below W.heap.size W w4 := hS.trans (hb4.mono hS.size)
     clear hS hb4
     go_wp2
     refine ⟨rfl, hK _ _ hS4 ?_⟩
     clear hK K
     refine MixH.tk 3 13 rfl (.bool (same16 (hdA x 32) x)) (yields_eql_ar (.tmp 13) (.tmp 15) rfl (hdA x 32) x rfl rfl rfl) hS4 (fun a' ha => ?_)
     simp only [zP1, zP2, zP3, zP4] at ha
     subst ha
     refine MixH.tks [false, false, false, false, false, false, false, false, false, false, false, false, false, false, true, true, true] 0 hS4 (fun K hK => ?_)
     simp only [Mix.pick]
     repeat (go_big_quiet_step (fail))
     refine wpQuiet_nil (hK _ ?_)
     clear hK K
     refine MixH.done (by kernel_rfl) ?_
     have bel4 := bthen bel hS4
     go_wp2
     go_ret
     exact ⟨by simp [vld], bel4⟩
   · have e6 : (V == 6) = false := beq_eq_false_iff_ne.2 h6
     have e4 : (V == 4) = false := beq_eq_false_iff_ne.2 h4
     clear h6 h4
     go_region
     go_wp2
     go_ret
     exact ⟨by simp [vld, e6, e4], bel.drew⟩
end Go.Proofs.YtclpeepnngegaaaGreatDoor
