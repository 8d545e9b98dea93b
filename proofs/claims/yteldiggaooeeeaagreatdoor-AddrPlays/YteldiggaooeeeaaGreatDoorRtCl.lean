/-
  addr.Class and what it looks up.
-/
import Derived.Test.YteldiggaooeeeaaGreatDoorRtA2
namespace Go.Proofs.YteldiggaooeeeaaGreatDoor
open Go.RowKit

def spC (c v : Int) (x : Nat → Nat) (n : Nat) : Array Value := #[.int .i64 c, .int .i64 v, .int .u8 (x 0 : Nat), .int .u8 (x 1 : Nat), .int .u8 (x 2 : Nat), .int .u8 (x 3 : Nat), .int .u8 (x 4 : Nat), .int .u8 (x 5 : Nat), .int .u8 (x 6 : Nat), .int .u8 (x 7 : Nat), .int .u8 (x 8 : Nat), .int .u8 (x 9 : Nat), .int .u8 (x 10 : Nat), .int .u8 (x 11 : Nat), .int .u8 (x 12 : Nat), .int .u8 (x 13 : Nat), .int .u8 (x 14 : Nat), .int .u8 (x 15 : Nat), .int .i64 (n : Int)]
def spT : List Value := [.int .i64 1, .int .i64 4, .int .u8 0, .int .u8 0, .int .u8 0, .int .u8 0, .int .u8 0, .int .u8 0, .int .u8 0, .int .u8 0, .int .u8 0, .int .u8 0, .int .u8 0, .int .u8 0, .int .u8 0, .int .u8 0, .int .u8 0, .int .u8 0, .int .i64 32, .int .i64 1, .int .i64 6, .int .u8 0, .int .u8 0, .int .u8 0, .int .u8 0, .int .u8 0, .int .u8 0, .int .u8 0, .int .u8 0, .int .u8 0, .int .u8 0, .int .u8 0, .int .u8 0, .int .u8 0, .int .u8 0, .int .u8 0, .int .u8 0, .int .i64 128, .int .i64 2, .int .i64 4, .int .u8 127, .int .u8 0, .int .u8 0, .int .u8 0, .int .u8 0, .int .u8 0, .int .u8 0, .int .u8 0, .int .u8 0, .int .u8 0, .int .u8 0, .int .u8 0, .int .u8 0, .int .u8 0, .int .u8 0, .int .u8 0, .int .i64 8, .int .i64 2, .int .i64 6, .int .u8 0, .int .u8 0, .int .u8 0, .int .u8 0, .int .u8 0, .int .u8 0, .int .u8 0, .int .u8 0, .int .u8 0, .int .u8 0, .int .u8 0, .int .u8 0, .int .u8 0, .int .u8 0, .int .u8 0, .int .u8 1, .int .i64 128, .int .i64 3, .int .i64 4, .int .u8 224, .int .u8 0, .int .u8 0, .int .u8 0, .int .u8 0, .int .u8 0, .int .u8 0, .int .u8 0, .int .u8 0, .int .u8 0, .int .u8 0, .int .u8 0, .int .u8 0, .int .u8 0, .int .u8 0, .int .u8 0, .int .i64 4, .int .i64 3, .int .i64 6, .int .u8 255, .int .u8 0, .int .u8 0, .int .u8 0, .int .u8 0, .int .u8 0, .int .u8 0, .int .u8 0, .int .u8 0, .int .u8 0, .int .u8 0, .int .u8 0, .int .u8 0, .int .u8 0, .int .u8 0, .int .u8 0, .int .i64 8, .int .i64 4, .int .i64 4, .int .u8 169, .int .u8 254, .int .u8 0, .int .u8 0, .int .u8 0, .int .u8 0, .int .u8 0, .int .u8 0, .int .u8 0, .int .u8 0, .int .u8 0, .int .u8 0, .int .u8 0, .int .u8 0, .int .u8 0, .int .u8 0, .int .i64 16, .int .i64 4, .int .i64 6, .int .u8 254, .int .u8 128, .int .u8 0, .int .u8 0, .int .u8 0, .int .u8 0, .int .u8 0, .int .u8 0, .int .u8 0, .int .u8 0, .int .u8 0, .int .u8 0, .int .u8 0, .int .u8 0, .int .u8 0, .int .u8 0, .int .i64 10, .int .i64 5, .int .i64 4, .int .u8 255, .int .u8 255, .int .u8 255, .int .u8 255, .int .u8 0, .int .u8 0, .int .u8 0, .int .u8 0, .int .u8 0, .int .u8 0, .int .u8 0, .int .u8 0, .int .u8 0, .int .u8 0, .int .u8 0, .int .u8 0, .int .i64 32, .int .i64 6, .int .i64 4, .int .u8 0, .int .u8 0, .int .u8 0, .int .u8 0, .int .u8 0, .int .u8 0, .int .u8 0, .int .u8 0, .int .u8 0, .int .u8 0, .int .u8 0, .int .u8 0, .int .u8 0, .int .u8 0, .int .u8 0, .int .u8 0, .int .i64 8, .int .i64 6, .int .i64 4, .int .u8 240, .int .u8 0, .int .u8 0, .int .u8 0, .int .u8 0, .int .u8 0, .int .u8 0, .int .u8 0, .int .u8 0, .int .u8 0, .int .u8 0, .int .u8 0, .int .u8 0, .int .u8 0, .int .u8 0, .int .u8 0, .int .i64 4, .int .i64 6, .int .i64 6, .int .u8 0, .int .u8 0, .int .u8 0, .int .u8 0, .int .u8 0, .int .u8 0, .int .u8 0, .int .u8 0, .int .u8 0, .int .u8 0, .int .u8 0, .int .u8 0, .int .u8 0, .int .u8 0, .int .u8 0, .int .u8 0, .int .i64 8]
def cl (k : Nat) : Int := ([1, 1, 2, 2, 3, 3, 4, 4, 5, 6, 6, 6] : List Int).getD k 0
def vr (k : Nat) : Int := ([4, 6, 4, 6, 4, 6, 4, 6, 4, 4, 4, 6] : List Int).getD k 0
def ln (k : Nat) : Nat := ([32, 128, 8, 128, 4, 8, 16, 10, 32, 8, 4, 8] : List Nat).getD k 0
def nt (k i : Nat) : Nat := (([[0, 0, 0, 0, 0, 0, 0, 0, 0, 0, 0, 0, 0, 0, 0, 0], [0, 0, 0, 0, 0, 0, 0, 0, 0, 0, 0, 0, 0, 0, 0, 0], [127, 0, 0, 0, 0, 0, 0, 0, 0, 0, 0, 0, 0, 0, 0, 0], [0, 0, 0, 0, 0, 0, 0, 0, 0, 0, 0, 0, 0, 0, 0, 1], [224, 0, 0, 0, 0, 0, 0, 0, 0, 0, 0, 0, 0, 0, 0, 0], [255, 0, 0, 0, 0, 0, 0, 0, 0, 0, 0, 0, 0, 0, 0, 0], [169, 254, 0, 0, 0, 0, 0, 0, 0, 0, 0, 0, 0, 0, 0, 0], [254, 128, 0, 0, 0, 0, 0, 0, 0, 0, 0, 0, 0, 0, 0, 0], [255, 255, 255, 255, 0, 0, 0, 0, 0, 0, 0, 0, 0, 0, 0, 0], [0, 0, 0, 0, 0, 0, 0, 0, 0, 0, 0, 0, 0, 0, 0, 0], [240, 0, 0, 0, 0, 0, 0, 0, 0, 0, 0, 0, 0, 0, 0, 0], [0, 0, 0, 0, 0, 0, 0, 0, 0, 0, 0, 0, 0, 0, 0, 0]] : List (List Nat)).getD k []).getD i 0
def spK (k : Nat) : Array Value := spC (cl k) (vr k) (nt k) (ln k)
theorem ln_le (k : Nat) (h : k < 12) : ln k ≤ 128 := by
  have : k = 0 ∨ k = 1 ∨ k = 2 ∨ k = 3 ∨ k = 4 ∨ k = 5 ∨ k = 6 ∨ k = 7 ∨ k = 8 ∨ k = 9 ∨ k = 10 ∨ k = 11 := by omega
  rcases this with rfl | rfl | rfl | rfl | rfl | rfl | rfl | rfl | rfl | rfl | rfl | rfl <;> decide
/-- the table of the nets lies where the program has it -/
def Spe8 (w : World) : Prop := w.rangeAt 0 0 spT
theorem Spe8.lt {w : World} (h : Spe8 w) : 0 < w.heap.size := World.block_lt_of_cell? w _ (h 0 _ rfl)
theorem Spe8.old {w w' : World} (h : Spe8 w) (hb : Below w.heap.size w w') : Spe8 w' := fun j v hv => (hb.cell (p := ⟨0, 0 + j, none⟩) h.lt).trans (h j v hv)
theorem Spe8.ch {S : Nat → Prop} {w w' : World} (h : Spe8 w) (k : Ch S w w') (hS : ¬ S 0) : Spe8 w' := fun j v hv => k.cell (h j v hv) hS
theorem Tryz.sizeSp : (Tryz.prog.info? 55).map (·.size) = some 19 := by kernel_rfl
theorem Tryz.sizeSpT : (Tryz.prog.info? 56).map (·.size) = some 228 := by kernel_rfl
def SpAt (w : World) (O : Nat) (C : Array Value) : Prop := w.heap[O]? = some (.cells C 55 (0, 0))
theorem SpAt.lt {w : World} {O : Nat} {C : Array Value} (k : SpAt w O C) : O < w.heap.size := (Array.getElem?_eq_some_iff.1 k).1
theorem SpAt.below {w w' : World} {O : Nat} {C : Array Value} (k : SpAt w O C) (h : Below w.heap.size w w') : SpAt w' O C := (h.block O k.lt).trans k
theorem SpAt.cell {w : World} {O : Nat} {C : Array Value} (k : SpAt w O C) (i : Nat) : w.cell? ⟨O, i, none⟩ = C[i]? := by unfold SpAt at k; simp [World.cell?, k]
theorem SpAt.range {w : World} {O : Nat} {k : Nat} (h : SpAt w O (spK k)) : w.rangeAt O 2 (arCells (nt k)).toList := by
  intro j v hj
  rw [h.cell]
  have hl : j < 16 := (List.getElem?_eq_some_iff.1 hj).1
  have : j = 0 ∨ j = 1 ∨ j = 2 ∨ j = 3 ∨ j = 4 ∨ j = 5 ∨ j = 6 ∨ j = 7 ∨ j = 8 ∨ j = 9 ∨ j = 10 ∨ j = 11 ∨ j = 12 ∨ j = 13 ∨ j = 14 ∨ j = 15 := by omega
  rcases this with rfl | rfl | rfl | rfl | rfl | rfl | rfl | rfl | rfl | rfl | rfl | rfl | rfl | rfl | rfl | rfl <;> exact hj
theorem wpList_load_spT {ops : Array Oper} {rest : List Oper} {o : Oper} {a : Act} {w : World} {Q : Exit → Act → World → Prop} (x : Operand) (ho : o.op = .load 56 x) (hx : a.eval x = .pointer (some ⟨0, 0, none⟩)) (hb : Spe8 w)
    (hw : Region.wanted o (yielded ops a.tmps) = true) (h : wpList Tryz.prog ops Q rest (a.put o.dst (.agg spT.toArray)) w) : wpList Tryz.prog ops Q (o :: rest) a w := by
  refine wpList_step fun K hK => ?_
  rw [if_pos hw]
  exact wp_load_mid 56 x ho 0 0 hx spT _ hb Tryz.underlying56 rfl Tryz.sizeSpT (hK _ _ h)
set_option maxRecDepth 100000 in
theorem index_sp0 (w : World) : (Instr.index 56 (.agg spT.toArray) (.int .i64 ((0 : Nat) : Int))).run Tryz.prog w = .ok (.agg (spK 0)) w := by kernel_rfl
set_option maxRecDepth 100000 in
theorem index_sp1 (w : World) : (Instr.index 56 (.agg spT.toArray) (.int .i64 ((1 : Nat) : Int))).run Tryz.prog w = .ok (.agg (spK 1)) w := by kernel_rfl
set_option maxRecDepth 100000 in
theorem index_sp2 (w : World) : (Instr.index 56 (.agg spT.toArray) (.int .i64 ((2 : Nat) : Int))).run Tryz.prog w = .ok (.agg (spK 2)) w := by kernel_rfl
set_option maxRecDepth 100000 in
theorem index_sp3 (w : World) : (Instr.index 56 (.agg spT.toArray) (.int .i64 ((3 : Nat) : Int))).run Tryz.prog w = .ok (.agg (spK 3)) w := by kernel_rfl
set_option maxRecDepth 100000 in
theorem index_sp4 (w : World) : (Instr.index 56 (.agg spT.toArray) (.int .i64 ((4 : Nat) : Int))).run Tryz.prog w = .ok (.agg (spK 4)) w := by kernel_rfl
set_option maxRecDepth 100000 in
theorem index_sp5 (w : World) : (Instr.index 56 (.agg spT.toArray) (.int .i64 ((5 : Nat) : Int))).run Tryz.prog w = .ok (.agg (spK 5)) w := by kernel_rfl
set_option maxRecDepth 100000 in
theorem index_sp6 (w : World) : (Instr.index 56 (.agg spT.toArray) (.int .i64 ((6 : Nat) : Int))).run Tryz.prog w = .ok (.agg (spK 6)) w := by kernel_rfl
set_option maxRecDepth 100000 in
theorem index_sp7 (w : World) : (Instr.index 56 (.agg spT.toArray) (.int .i64 ((7 : Nat) : Int))).run Tryz.prog w = .ok (.agg (spK 7)) w := by kernel_rfl
set_option maxRecDepth 100000 in
theorem index_sp8 (w : World) : (Instr.index 56 (.agg spT.toArray) (.int .i64 ((8 : Nat) : Int))).run Tryz.prog w = .ok (.agg (spK 8)) w := by kernel_rfl
set_option maxRecDepth 100000 in
theorem index_sp9 (w : World) : (Instr.index 56 (.agg spT.toArray) (.int .i64 ((9 : Nat) : Int))).run Tryz.prog w = .ok (.agg (spK 9)) w := by kernel_rfl
set_option maxRecDepth 100000 in
theorem index_sp10 (w : World) : (Instr.index 56 (.agg spT.toArray) (.int .i64 ((10 : Nat) : Int))).run Tryz.prog w = .ok (.agg (spK 10)) w := by kernel_rfl
set_option maxRecDepth 100000 in
theorem index_sp11 (w : World) : (Instr.index 56 (.agg spT.toArray) (.int .i64 ((11 : Nat) : Int))).run Tryz.prog w = .ok (.agg (spK 11)) w := by kernel_rfl
set_option maxRecDepth 100000 in
theorem index_sp (w : World) (k : Nat) (hk : k < 12) : (Instr.index 56 (.agg spT.toArray) (.int .i64 (k : Int))).run Tryz.prog w = .ok (.agg (spK k)) w := by
  have : k = 0 ∨ k = 1 ∨ k = 2 ∨ k = 3 ∨ k = 4 ∨ k = 5 ∨ k = 6 ∨ k = 7 ∨ k = 8 ∨ k = 9 ∨ k = 10 ∨ k = 11 := by omega
  clear hk
  rcases this with rfl | rfl | rfl | rfl | rfl | rfl | rfl | rfl | rfl | rfl | rfl | rfl
  · exact index_sp0 w
  · exact index_sp1 w
  · exact index_sp2 w
  · exact index_sp3 w
  · exact index_sp4 w
  · exact index_sp5 w
  · exact index_sp6 w
  · exact index_sp7 w
  · exact index_sp8 w
  · exact index_sp9 w
  · exact index_sp10 w
  · exact index_sp11 w
theorem wpList_index_sp {ops : Array Oper} {rest : List Oper} {o : Oper} {a : Act} {w : World} {Q : Exit → Act → World → Prop} (x y : Operand) (ho : o.op = .index 56 x y) (k : Nat) (hk : k < 12) (hx : a.eval x = .agg spT.toArray) (hy : a.eval y = .int .i64 k)
    (hw : Region.wanted o (yielded ops a.tmps) = true) (hh : wpList Tryz.prog ops Q rest (a.put o.dst (.agg (spK k))) w) : wpList Tryz.prog ops Q (o :: rest) a w := by
  refine wpList_step fun K hK => ?_
  rw [if_pos hw]
  unfold Oper.wp execOp
  simp only [ho, hx, hy, Sem.run_bind, index_sp w k hk, Result.andThen_ok]
  exact hK _ _ hh
theorem wpList_alloc_sp {ops : Array Oper} {rest : List Oper} {o : Oper} {a : Act} {w : World} {Q : Exit → Act → World → Prop} (ho : o.op = .alloc 55) (hw : Region.wanted o (yielded ops a.tmps) = true)
    (h : wpList Tryz.prog ops Q rest (a.put o.dst (.pointer (some ⟨w.heap.size, 0, none⟩))) (w.alloc (.cells (spC 0 0 (fun _ => 0) 0) 55))) : wpList Tryz.prog ops Q (o :: rest) a w := by
  refine wpList_step fun K hK => ?_
  rw [if_pos hw]
  have hrun : (execOp a.eval o).run Tryz.prog w = .ok (.value (.pointer (some ⟨w.heap.size, 0, none⟩))) (w.alloc (.cells (spC 0 0 (fun _ => 0) 0) 55)) := by
    obtain ⟨dst, op, type, pos, after, guard⟩ := o
    simp only at ho
    subst ho
    simp only [execOp]
    go_simp
    rfl
  unfold Oper.wp
  rw [hrun]
  exact hK _ _ h
theorem wpList_store_sp {ops : Array Oper} {rest : List Oper} {o : Oper} {a : Act} {w : World} {Q : Exit → Act → World → Prop} (x y : Operand) (ho : o.op = .store 55 x y) (hd : o.dst = none) (O k : Nat) (C : Array Value) (hC : C.size = 19) (hx : a.eval x = .pointer (some ⟨O, 0, none⟩)) (hy : a.eval y = .agg (spK k)) (hb : SpAt w O C)
    (hw : Region.wanted o (yielded ops a.tmps) = true) (hh : ∀ w', SpAt w' O (spK k) → Ch (fun q => q = O) w w' → wpList Tryz.prog ops Q rest a w') : wpList Tryz.prog ops Q (o :: rest) a w := by
  refine wpList_step fun K hK => ?_
  rw [if_pos hw]
  refine wp_store_row 55 x y ho O (spK k) hx hy _ C hb Tryz.sizeSp hC (by simp [spK, spC, Value.oneCell']) (hK _ _ ?_)
  rw [hd]
  refine hh _ (setRow_heap w O _ _ _ _ hb) ⟨rfl, rfl, rfl, ?_, ?_⟩
  · simp [World.setRow]
  · intro k hk hne
    simp only [World.setRow]
    rw [Array.getElem?_modify, if_neg (fun e => hne e.symm)]
/-- which class: the first row that matches -/
def mt (V : Int) (x : Nat → Nat) (k : Nat) : Bool := vr k == V && same16 (hdA x (ln k)) (nt k)
def clF (V : Int) (x : Nat → Nat) : Nat → Nat → Int
  | 0, _ => 7
  | f + 1, k => if mt V x k then cl k else clF V x f (k + 1)
def clsA (V : Int) (x : Nat → Nat) : Int := if vld V x then clF V x 12 0 else 0
theorem clF_yes (V : Int) (x : Nat → Nat) (k : Nat) (hk : k < 12) (h : mt V x k = true) : clF V x (12 - k) k = cl k := by
  obtain ⟨f, hf⟩ : ∃ f, 12 - k = f + 1 := ⟨12 - k - 1, by omega⟩
  rw [hf, clF, if_pos h]
theorem clF_no (V : Int) (x : Nat → Nat) (k : Nat) (hk : k < 12) (h : mt V x k = false) : clF V x (12 - k) k = clF V x (12 - (k + 1)) (k + 1) := by
  obtain ⟨f, hf⟩ : ∃ f, 12 - k = f + 1 := ⟨12 - k - 1, by omega⟩
  rw [hf, clF, if_neg (by simp [h])]
  congr 1
  omega
set_option maxHeartbeats 1600000 in
set_option maxRecDepth 100000 in
theorem class_any (V : Int) (x : Nat → Nat) (w : World) (hx : ∀ i, i < 16 → x i < 256) (hs : Spe8 w) : Calls Tryz.prog 12 #[.agg (ipCells V x)] w fun e w' => e = .returned (.int .i64 (clsA V x)) ∧ Below w.heap.size w w' := by
  have hb := boxed_new w V x 28
  have bel : Below w.heap.size w (w.alloc (.cells (ipCells V x) 28)) := (Below.refl _ _).alloc (Nat.le_refl _) _
  obtain ⟨C, hC⟩ : ∃ C, C = ipCells V x := ⟨_, rfl⟩
  rw [← hC] at hb bel
  obtain ⟨W, hW⟩ : ∃ W, W = w.alloc (.cells C 28) := ⟨_, rfl⟩
  rw [← hW] at hb bel
  obtain ⟨B, hB⟩ : ∃ B, B = w.heap.size := ⟨_, rfl⟩
  rw [← hB] at hb
  have HB : Hid (w.heap.size = B) := hB.symm
  have HW : Hid (w.alloc (.cells C 28) = W) := hW.symm
  have HBX : Hid (Boxed W B V x) := hb
  have HX : Hid (∀ i, i < 16 → x i < 256) := hx
  have HS : Hid (Spe8 W) := hs.old bel
  rw [← hC]
  clear hb hW hB hC hx hs
  go_enter Tryz.func12, Tryz.ntmps12
  go_upto_region 1 with fail
  rw [HB.out, HW.out]
  go_wp2_with (first | (refine wpList_load_ip (.tmp 1) rfl B V x rfl HBX.out rfl ?_))
  refine Calls.mono (valid_any V x W HX.out) ?_
  rintro e w1 ⟨rfl, hb1⟩
  have bel1 := bthen bel hb1
  have HBX1 : Hid (Boxed w1 B V x) := HBX.out.old hb1
  have HS1 : Hid (Spe8 w1) := HS.out.old hb1
  clear hb1 HBX HS bel
  cases hv : vld V x
  · have HV : Hid (clsA V x = 0) := by unfold clsA; rw [hv]; rfl
    clear hv
    go_wp2
    go_ret
    exact ⟨by rw [HV.out]; rfl, bel1⟩
  · have HV : Hid (clsA V x = clF V x 12 0) := by unfold clsA; rw [hv]; rfl
    clear hv
    obtain ⟨TB, hTB⟩ : ∃ TB, TB = spT.toArray := ⟨_, rfl⟩
    have HTB : Hid (spT.toArray = TB) := hTB.symm
    clear hTB
    go_wp2_with (first | (refine wpList_load_spT (.global 0) rfl rfl HS1.out rfl ?_; rw [HTB.out]))
    go_loopw [9] (fun ix wr => ∃ k : Nat, k ≤ 12 ∧ ix = .int .i64 k ∧ Hid (clF V x 12 0 = clF V x (12 - k) k) ∧ Boxed wr B V x ∧ Below w.heap.size w wr) (fun ix _ => 12 - (intOf ix).toNat)
    case atStart => exact ⟨0, by omega, rfl, rfl, HBX1.out, bel1⟩
    case round =>
      obtain ⟨k, hk, rfl, HF, hbx, hbel⟩ := hrel
      by_cases hk12 : k < 12
      · have w1 : IntKind.i64.wrap ((k : Int) + 1) = (k : Int) + 1 := i64_s _ (by omega) (by omega)
        have l12 : (k : Int) < 12 := by omega
        have hbN : Below wr.heap.size wr (wr.alloc (.cells (spC 0 0 (fun _ => 0) 0) 55)) := (Below.refl _ _).alloc (Nat.le_refl _) _
        have HN : Hid (SpAt (wr.alloc (.cells (spC 0 0 (fun _ => 0) 0) 55)) wr.heap.size (spC 0 0 (fun _ => 0) 0)) := heap_alloc_new _ _
        have HXN : Hid (Boxed (wr.alloc (.cells (spC 0 0 (fun _ => 0) 0) 55)) B V x) := hbx.old hbN
        have belN := hbel.trans (hbN.mono hbel.size)
        obtain ⟨wN, hwN⟩ : ∃ wN, wN = wr.alloc (.cells (spC 0 0 (fun _ => 0) 0) 55) := ⟨_, rfl⟩
        obtain ⟨O, hO⟩ : ∃ O, O = wr.heap.size := ⟨_, rfl⟩
        rw [← hwN, ← hO] at HN
        rw [← hwN] at HXN belN
        have HO : Hid (wr.heap.size = O) := hO.symm
        have HBO : Hid (w.heap.size ≤ O) := by rw [hO]; exact hbel.size
        have HBl : Hid (B ≠ O) := by have h1 := World.block_lt_of_cell? wr _ hbx.ver; intro e; subst e; exact Nat.lt_irrefl _ (hO ▸ h1)
        have HWN : Hid (wr.alloc (.cells (spC 0 0 (fun _ => 0) 0) 55) = wN) := hwN.symm
        clear hbN hwN hO hbx hbel
        go_upto_region 6 with (first | (refine wpList_index_sp (.tmp 8) (.tmp 9) rfl k hk12 (by rw [HTB.out]; rfl) rfl rfl ?_) | (refine wpList_alloc_sp rfl rfl ?_; rw [HO.out, HWN.out]) | (refine wpList_store_sp (.tmp 4) (.tmp 11) rfl rfl O k (spC 0 0 (fun _ => 0) 0) rfl rfl rfl HN.out rfl ?_))
        intro wS hRS kS
        have hne : ¬ (fun q => q = O) B := HBl.out
        have HBS : Hid (Boxed wS B V x) := ⟨kS.cell HXN.out.ver hne, fun i hi => kS.cell (HXN.out.byte i hi) hne⟩
        have HRS : Hid (SpAt wS O (spK k)) := hRS
        have belS : Below w.heap.size w wS := belN.trans (kS.below (fun q e => by have e' : q = O := e; have := HBO.out; omega) belN.size)
        have HHX : Hid (∀ i, i < 16 → x i < 256) := HX.out
        clear hRS kS hne HXN HN HWN HO belN HBl HBO
        by_cases hvr : vr k = V
        · have ev : (vr k == V) = true := by rw [hvr]; exact beq_self_eq_true V
          have HMT : Hid (mt V x k = same16 (hdA x (ln k)) (nt k)) := by unfold mt; rw [ev]; rfl
          have HLN : Hid (ln k ≤ 128) := ln_le k hk12
          clear hvr
          go_upto_region 6 with fail
          refine MixH.start (fun A => Below wS.heap.size wS A) (by kernel_rfl) ?_
          obtain ⟨wA, hwA⟩ : ∃ wA, wA = wS.drew := ⟨_, rfl⟩
          have hS : Below wS.heap.size wS wA := by rw [hwA]; exact (Below.refl _ _).drew
          rw [← hwA]
          clear hwA
          refine MixH.takes [true, false, true] 13 (by kernel_rfl) (by kernel_rfl) (by decide) (by kernel_rfl) hS (fun K hK => ?_)
          simp only [Mix.pick]
          repeat (go_big_quiet_step (fail))
          refine wpQuiet_nil (hK _ ?_)
          clear hK K
          refine MixH.take 12 1 _ (.int .i64 (vr k)) rfl (by kernel_rfl) (by kernel_rfl) (by kernel_rfl) (by kernel_rfl) (yields_int (.tmp 12) rfl ⟨O, 1, none⟩ _ rfl rfl (fun A hA => (HRS.out.below hA).cell 1)) hS (fun a' ha => ?_)
          simp only [Act.put, List.setIfInBounds_toArray, List.set_cons_succ, List.set_cons_zero] at ha
          subst ha
          refine MixH.take 11 3 _ (.int .i64 V) rfl (by kernel_rfl) (by kernel_rfl) (by kernel_rfl) (by kernel_rfl) (yields_int (.tmp 14) rfl ⟨B, 0, none⟩ _ rfl rfl (fun A hA => (HBS.out.old hA).ver)) hS (fun a' ha => ?_)
          simp only [Act.put, List.setIfInBounds_toArray, List.set_cons_succ, List.set_cons_zero] at ha
          subst ha
          refine MixH.takes [false, false, false, false, true, true] 9 (by kernel_rfl) (by kernel_rfl) (by decide) (by kernel_rfl) hS (fun K hK => ?_)
          simp only [Mix.pick]
          repeat (go_big_quiet_step (fail))
          refine wpQuiet_nil (hK _ ?_)
          clear hK K
          refine MixH.takes [false, false, false, false, false, false, true, false, true, false, false, true] 6 (by kernel_rfl) (by kernel_rfl) (by decide) (by kernel_rfl) hS (fun K hK => ?_)
          simp only [Mix.pick]
          repeat (go_big_quiet_step (fail))
          refine wpQuiet_nil (hK _ ?_)
          clear hK K
          refine MixH.take 5 7 _ (.agg (arCells x)) rfl (by kernel_rfl) (by kernel_rfl) (by kernel_rfl) (by kernel_rfl) (yields_ar (.tmp 18) rfl B 1 x rfl rfl (fun A hA => (HBS.out.old hA).range)) hS (fun a' ha => ?_)
          simp only [Act.put, List.setIfInBounds_toArray, List.set_cons_succ, List.set_cons_zero] at ha
          subst ha
          refine MixH.take 4 9 _ (.int .i64 (ln k : Int)) rfl (by kernel_rfl) (by kernel_rfl) (by kernel_rfl) (by kernel_rfl) (yields_int (.tmp 20) rfl ⟨O, 18, none⟩ _ rfl rfl (fun A hA => (HRS.out.below hA).cell 18)) hS (fun a' ha => ?_)
          simp only [Act.put, List.setIfInBounds_toArray, List.set_cons_succ, List.set_cons_zero] at ha
          subst ha
          refine MixH.take 3 12 _ (.agg (arCells (nt k))) rfl (by kernel_rfl) (by kernel_rfl) (by kernel_rfl) (by kernel_rfl) (yields_ar (.tmp 23) rfl O 2 (nt k) rfl rfl (fun A hA => (HRS.out.below hA).range)) hS (fun a' ha => ?_)
          simp only [Act.put, List.setIfInBounds_toArray, List.set_cons_succ, List.set_cons_zero] at ha
          subst ha
          refine MixH.one [false, false, false, false, false, false, false, false, false, false, true] 2 10 _ rfl rfl (by kernel_rfl) (by kernel_rfl) (fun K hK => ?_)
          simp only [Mix.pick]
          go_wp2_with fail
          refine Calls.mono (head_any x (ln k) wA HLN.out HHX.out) ?_
          rintro e w4 ⟨rfl, hb4⟩
          have hS4 : Below wS.heap.size wS w4 := hS.trans (hb4.mono hS.size)
          clear hS hb4
          go_wp2
          refine ⟨rfl, hK _ _ hS4 ?_⟩
          clear hK K
          refine MixH.take 1 13 _ (.bool (same16 (hdA x (ln k)) (nt k))) rfl (by kernel_rfl) (by kernel_rfl) (by kernel_rfl) (by kernel_rfl) (yields_eql_ar (.tmp 22) (.tmp 24) rfl (hdA x (ln k)) (nt k) rfl rfl rfl) hS4 (fun a' ha => ?_)
          simp only [Act.put, List.setIfInBounds_toArray, List.set_cons_succ, List.set_cons_zero] at ha
          subst ha
          refine MixH.takes [false, false, false, false, false, false, false, false, false, false, false, false, false, false, true] 0 (by kernel_rfl) (by kernel_rfl) (by decide) (by kernel_rfl) hS4 (fun K hK => ?_)
          simp only [Mix.pick]
          repeat (go_big_quiet_step (fail))
          refine wpQuiet_nil (hK _ ?_)
          clear hK K
          refine MixH.done (by kernel_rfl) ?_
          have HB4 : Hid (Boxed w4 B V x) := HBS.out.old hS4
          have HR4 : Hid (SpAt w4 O (spK k)) := HRS.out.below hS4
          have bel4 : Below w.heap.size w w4 := belS.trans (hS4.mono belS.size)
          have c0 : w4.cell? ⟨O, 0, none⟩ = some (.int .i64 (cl k)) := HR4.out.cell 0
          clear hS4 HBS HRS belS ev
          cases hm : same16 (hdA x (ln k)) (nt k)
          · have HNX : Hid (clF V x 12 0 = clF V x (12 - (k + 1)) (k + 1)) := HF.out.trans (clF_no V x k hk12 (HMT.out.trans hm))
            clear hm HMT
            go_wp2
            go_roundw
            case rel => exact ⟨k + 1, by omega, by simp, HNX, HB4.out, bel4⟩
            case measure => simp [intOf]; omega
          · have HNX : Hid (clF V x 12 0 = cl k) := HF.out.trans (clF_yes V x k hk12 (HMT.out.trans hm))
            clear hm HMT
            go_wp2
            go_ret
            exact ⟨by rw [HV.out, HNX.out]; rfl, bel4⟩
        · have ev : (vr k == V) = false := beq_eq_false_iff_ne.2 hvr
          have HNX : Hid (clF V x 12 0 = clF V x (12 - (k + 1)) (k + 1)) := HF.out.trans (clF_no V x k hk12 (by unfold mt; rw [ev]; rfl))
          have c1 : wS.cell? ⟨O, 1, none⟩ = some (.int .i64 (vr k)) := HRS.out.cell 1
          have k0 : wS.cell? ⟨B, 0, none⟩ = some (.int .i64 V) := HBS.out.ver
          have HBD : Hid (Boxed wS.drew B V x) := HBS.out.old (Below.refl _ _).drew
          have belD : Below w.heap.size w wS.drew := belS.drew
          clear hvr
          go_upto_region 6 with fail
          go_region
          go_wp2
          go_roundw
          case rel => exact ⟨k + 1, by omega, by simp, HNX, HBD.out, belD⟩
          case measure => simp [intOf]; omega
      · have e : k = 12 := by omega
        subst e
        have HNX : Hid (clF V x 12 0 = 7) := HF.out.trans rfl
        clear hk12 hk
        go_wp2
        go_ret
        exact ⟨by rw [HV.out, HNX.out]; rfl, hbel⟩
end Go.Proofs.YteldiggaooeeeaaGreatDoor
