/-
  Layer 4: addresses and prefixes in memory.
-/
import Derived.Test.YteldiggaooeeeaaGreatDoorRtCl
namespace Go.Proofs.YteldiggaooeeeaaGreatDoor
open Go.RowKit

structure PV where
  V : Int
  x : Nat → Nat
  n : Int
def pfC (p : PV) : Array Value := #[.int .i64 p.V, .int .u8 (p.x 0 : Nat), .int .u8 (p.x 1 : Nat), .int .u8 (p.x 2 : Nat), .int .u8 (p.x 3 : Nat), .int .u8 (p.x 4 : Nat), .int .u8 (p.x 5 : Nat), .int .u8 (p.x 6 : Nat), .int .u8 (p.x 7 : Nat), .int .u8 (p.x 8 : Nat), .int .u8 (p.x 9 : Nat), .int .u8 (p.x 10 : Nat), .int .u8 (p.x 11 : Nat), .int .u8 (p.x 12 : Nat), .int .u8 (p.x 13 : Nat), .int .u8 (p.x 14 : Nat), .int .u8 (p.x 15 : Nat), .int .i64 p.n]
def pz : PV := ⟨0, fun _ => 0, 0⟩
theorem Tryz.size_ipr : (Tryz.prog.info? 28).map (·.size) = some 17 := by kernel_rfl
def IprAt (w : World) (O : Nat) (V : Int) (f : Nat → Nat) : Prop := w.heap[O]? = some (.cells (ipCells V f) 28 (0, 0))
section
variable {w : World} {O : Nat} {V : Int} {f : Nat → Nat} (k : IprAt w O V f)
include k
theorem IprAt.lt : O < w.heap.size := (Array.getElem?_eq_some_iff.1 k).1
theorem IprAt.ch {S : Nat → Prop} {w' : World} (c : Ch S w w') (hS : ¬ S O) : IprAt w' O V f := (c.block O k.lt hS).trans k
theorem IprAt.below {w' : World} (c : Below w.heap.size w w') : IprAt w' O V f := (c.block O k.lt).trans k
theorem IprAt.cell (i : Nat) : w.cell? ⟨O, i, none⟩ = (ipCells V f)[i]? := by unfold IprAt at k; simp [World.cell?, k]
theorem IprAt.fz (j : Nat) : w.frozen? ⟨O, j, none⟩ = false := by unfold IprAt at k; simp [World.frozen?, k]
theorem IprAt.range (o n : Nat) : w.rangeAt O o (((ipCells V f).extract o (o + n)).toList) := World.rangeAt_of_block k o n
end
theorem ipr_new (w : World) (V : Int) (f : Nat → Nat) : IprAt (w.alloc (.cells (ipCells V f) 28)) w.heap.size V f := heap_alloc_new _ _
theorem wpList_load_ipr {ops : Array Oper} {rest : List Oper} {o : Oper} {a : Act} {w : World} {Q : Exit → Act → World → Prop} (x : Operand) (ho : o.op = .load 28 x) (O : Nat) (V : Int) (f : Nat → Nat) (hx : a.eval x = .pointer (some ⟨O, 0, none⟩)) (hb : IprAt w O V f)
    (hw : Region.wanted o (yielded ops a.tmps) = true) (hh : wpList Tryz.prog ops Q rest (a.put o.dst (.agg (ipCells V f))) w) : wpList Tryz.prog ops Q (o :: rest) a w := by
  refine wpList_step fun K hK => ?_
  rw [if_pos hw]
  exact wp_load_row 28 x ho O hx _ _ _ _ hb Tryz.underlying28 rfl Tryz.size_ipr (hK _ _ hh)
theorem wpList_store_ipr {ops : Array Oper} {rest : List Oper} {o : Oper} {a : Act} {w : World} {Q : Exit → Act → World → Prop} (x y : Operand) (ho : o.op = .store 28 x y) (hd : o.dst = none) (O : Nat) (V : Int) (f : Nat → Nat) (V' : Int) (f' : Nat → Nat) (hx : a.eval x = .pointer (some ⟨O, 0, none⟩)) (hy : a.eval y = .agg (ipCells V' f')) (hb : IprAt w O V f)
    (hw : Region.wanted o (yielded ops a.tmps) = true) (hh : ∀ w', IprAt w' O V' f' → Ch (fun q => q = O) w w' → wpList Tryz.prog ops Q rest a w') : wpList Tryz.prog ops Q (o :: rest) a w := by
  refine wpList_step fun K hK => ?_
  rw [if_pos hw]
  refine wp_store_row 28 x y ho O (ipCells V' f') hx hy _ (ipCells V f) hb Tryz.size_ipr rfl (by simp [ipCells, Value.oneCell']) (hK _ _ ?_)
  rw [hd]
  refine hh _ (setRow_heap w O _ _ _ _ hb) ⟨rfl, rfl, rfl, ?_, ?_⟩
  · simp [World.setRow]
  · intro k hk hne
    simp only [World.setRow]
    rw [Array.getElem?_modify, if_neg (fun e => hne e.symm)]
theorem wpList_alloc_ipr {ops : Array Oper} {rest : List Oper} {o : Oper} {a : Act} {w : World} {Q : Exit → Act → World → Prop} (ho : o.op = .alloc 28) (hw : Region.wanted o (yielded ops a.tmps) = true)
    (h : wpList Tryz.prog ops Q rest (a.put o.dst (.pointer (some ⟨w.heap.size, 0, none⟩))) (w.alloc (.cells (ipCells 0 (fun _ => 0)) 28))) : wpList Tryz.prog ops Q (o :: rest) a w := by
  refine wpList_step fun K hK => ?_
  rw [if_pos hw]
  have hrun : (execOp a.eval o).run Tryz.prog w = .ok (.value (.pointer (some ⟨w.heap.size, 0, none⟩))) (w.alloc (.cells (ipCells 0 (fun _ => 0)) 28)) := by
    obtain ⟨dst, op, type, pos, after, guard⟩ := o
    simp only at ho
    subst ho
    simp only [execOp]
    go_simp
    rfl
  unfold Oper.wp
  rw [hrun]
  exact hK _ _ h
theorem yields_ipr {ops : Array Oper} {o : Oper} {a : Act} {S : World → Prop} (x : Operand) (ho : o.op = .load 28 x) (O off : Nat) (V : Int) (f : Nat → Nat) (hx : a.eval x = .pointer (some ⟨O, off, none⟩)) (hw : Region.wanted o (yielded ops a.tmps) = true) (hS : ∀ w, S w → w.rangeAt O off (ipCells V f).toList) : YieldsIf Tryz.prog ops S o (.agg (ipCells V f)) a :=
  yieldsIf_load_mid hw 28 x ho O off hx (ipCells V f).toList _ hS Tryz.underlying28 rfl Tryz.size_ipr
theorem wpList_mid_ipr {ops : Array Oper} {rest : List Oper} {o : Oper} {a : Act} {w : World} {Q : Exit → Act → World → Prop} (x : Operand) (ho : o.op = .load 28 x) (O off : Nat) (V : Int) (f : Nat → Nat) (hx : a.eval x = .pointer (some ⟨O, off, none⟩)) (hb : w.rangeAt O off (ipCells V f).toList)
    (hw : Region.wanted o (yielded ops a.tmps) = true) (h : wpList Tryz.prog ops Q rest (a.put o.dst (.agg (ipCells V f))) w) : wpList Tryz.prog ops Q (o :: rest) a w := by
  refine wpList_step fun K hK => ?_
  rw [if_pos hw]
  exact wp_load_mid 28 x ho O off hx (ipCells V f).toList _ hb Tryz.underlying28 rfl Tryz.size_ipr (hK _ _ h)
theorem results_ipr {fn : Func} {p : Tmp} (h : fn.results = #[.cell p 28]) (tmps : Array Value) (w : World) (O : Nat) (V : Int) (f : Nat → Nat) (hp : tmps.getD p undef = .pointer (some ⟨O, 0, none⟩)) (hb : IprAt w O V f) :
    (results fn tmps).run Tryz.prog w = .ok (.agg (ipCells V f)) w :=
  results_cell_row h tmps w O _ (ipCells V f) _ _ hp hb Tryz.underlying28 rfl Tryz.size_ipr
theorem Tryz.size_pfx : (Tryz.prog.info? 38).map (·.size) = some 18 := by kernel_rfl
def PfxAt (w : World) (O : Nat) (pv : PV) : Prop := w.heap[O]? = some (.cells (pfC pv) 38 (0, 0))
section
variable {w : World} {O : Nat} {pv : PV} (k : PfxAt w O pv)
include k
theorem PfxAt.lt : O < w.heap.size := (Array.getElem?_eq_some_iff.1 k).1
theorem PfxAt.ch {S : Nat → Prop} {w' : World} (c : Ch S w w') (hS : ¬ S O) : PfxAt w' O pv := (c.block O k.lt hS).trans k
theorem PfxAt.below {w' : World} (c : Below w.heap.size w w') : PfxAt w' O pv := (c.block O k.lt).trans k
theorem PfxAt.cell (i : Nat) : w.cell? ⟨O, i, none⟩ = (pfC pv)[i]? := by unfold PfxAt at k; simp [World.cell?, k]
theorem PfxAt.fz (j : Nat) : w.frozen? ⟨O, j, none⟩ = false := by unfold PfxAt at k; simp [World.frozen?, k]
theorem PfxAt.range (o n : Nat) : w.rangeAt O o (((pfC pv).extract o (o + n)).toList) := World.rangeAt_of_block k o n
end
theorem pfx_new (w : World) (pv : PV) : PfxAt (w.alloc (.cells (pfC pv) 38)) w.heap.size pv := heap_alloc_new _ _
theorem wpList_load_pfx {ops : Array Oper} {rest : List Oper} {o : Oper} {a : Act} {w : World} {Q : Exit → Act → World → Prop} (x : Operand) (ho : o.op = .load 38 x) (O : Nat) (pv : PV) (hx : a.eval x = .pointer (some ⟨O, 0, none⟩)) (hb : PfxAt w O pv)
    (hw : Region.wanted o (yielded ops a.tmps) = true) (hh : wpList Tryz.prog ops Q rest (a.put o.dst (.agg (pfC pv))) w) : wpList Tryz.prog ops Q (o :: rest) a w := by
  refine wpList_step fun K hK => ?_
  rw [if_pos hw]
  exact wp_load_row 38 x ho O hx _ _ _ _ hb Tryz.underlying38 rfl Tryz.size_pfx (hK _ _ hh)
theorem wpList_store_pfx {ops : Array Oper} {rest : List Oper} {o : Oper} {a : Act} {w : World} {Q : Exit → Act → World → Prop} (x y : Operand) (ho : o.op = .store 38 x y) (hd : o.dst = none) (O : Nat) (pv : PV) (pv' : PV) (hx : a.eval x = .pointer (some ⟨O, 0, none⟩)) (hy : a.eval y = .agg (pfC pv')) (hb : PfxAt w O pv)
    (hw : Region.wanted o (yielded ops a.tmps) = true) (hh : ∀ w', PfxAt w' O pv' → Ch (fun q => q = O) w w' → wpList Tryz.prog ops Q rest a w') : wpList Tryz.prog ops Q (o :: rest) a w := by
  refine wpList_step fun K hK => ?_
  rw [if_pos hw]
  refine wp_store_row 38 x y ho O (pfC pv') hx hy _ (pfC pv) hb Tryz.size_pfx rfl (by simp [pfC, Value.oneCell']) (hK _ _ ?_)
  rw [hd]
  refine hh _ (setRow_heap w O _ _ _ _ hb) ⟨rfl, rfl, rfl, ?_, ?_⟩
  · simp [World.setRow]
  · intro k hk hne
    simp only [World.setRow]
    rw [Array.getElem?_modify, if_neg (fun e => hne e.symm)]
theorem wpList_alloc_pfx {ops : Array Oper} {rest : List Oper} {o : Oper} {a : Act} {w : World} {Q : Exit → Act → World → Prop} (ho : o.op = .alloc 38) (hw : Region.wanted o (yielded ops a.tmps) = true)
    (h : wpList Tryz.prog ops Q rest (a.put o.dst (.pointer (some ⟨w.heap.size, 0, none⟩))) (w.alloc (.cells (pfC pz) 38))) : wpList Tryz.prog ops Q (o :: rest) a w := by
  refine wpList_step fun K hK => ?_
  rw [if_pos hw]
  have hrun : (execOp a.eval o).run Tryz.prog w = .ok (.value (.pointer (some ⟨w.heap.size, 0, none⟩))) (w.alloc (.cells (pfC pz) 38)) := by
    obtain ⟨dst, op, type, pos, after, guard⟩ := o
    simp only at ho
    subst ho
    simp only [execOp]
    go_simp
    rfl
  unfold Oper.wp
  rw [hrun]
  exact hK _ _ h
theorem yields_pfx {ops : Array Oper} {o : Oper} {a : Act} {S : World → Prop} (x : Operand) (ho : o.op = .load 38 x) (O off : Nat) (pv : PV) (hx : a.eval x = .pointer (some ⟨O, off, none⟩)) (hw : Region.wanted o (yielded ops a.tmps) = true) (hS : ∀ w, S w → w.rangeAt O off (pfC pv).toList) : YieldsIf Tryz.prog ops S o (.agg (pfC pv)) a :=
  yieldsIf_load_mid hw 38 x ho O off hx (pfC pv).toList _ hS Tryz.underlying38 rfl Tryz.size_pfx
theorem wpList_mid_pfx {ops : Array Oper} {rest : List Oper} {o : Oper} {a : Act} {w : World} {Q : Exit → Act → World → Prop} (x : Operand) (ho : o.op = .load 38 x) (O off : Nat) (pv : PV) (hx : a.eval x = .pointer (some ⟨O, off, none⟩)) (hb : w.rangeAt O off (pfC pv).toList)
    (hw : Region.wanted o (yielded ops a.tmps) = true) (h : wpList Tryz.prog ops Q rest (a.put o.dst (.agg (pfC pv))) w) : wpList Tryz.prog ops Q (o :: rest) a w := by
  refine wpList_step fun K hK => ?_
  rw [if_pos hw]
  exact wp_load_mid 38 x ho O off hx (pfC pv).toList _ hb Tryz.underlying38 rfl Tryz.size_pfx (hK _ _ h)
theorem results_pfx {fn : Func} {p : Tmp} (h : fn.results = #[.cell p 38]) (tmps : Array Value) (w : World) (O : Nat) (pv : PV) (hp : tmps.getD p undef = .pointer (some ⟨O, 0, none⟩)) (hb : PfxAt w O pv) :
    (results fn tmps).run Tryz.prog w = .ok (.agg (pfC pv)) w :=
  results_cell_row h tmps w O _ (pfC pv) _ _ hp hb Tryz.underlying38 rfl Tryz.size_pfx
theorem IprAt.boxed {w : World} {O : Nat} {V : Int} {x : Nat → Nat} (h : IprAt w O V x) : Boxed w O V x := by
  refine ⟨h.cell 0, fun i hi => ?_⟩
  rw [h.cell, ipCells_eq]
  simp [Nat.add_comm 1 i, hi]
theorem lt20' {j : Nat} (h : j < 20) : j = 0 ∨ j = 1 ∨ j = 2 ∨ j = 3 ∨ j = 4 ∨ j = 5 ∨ j = 6 ∨ j = 7 ∨ j = 8 ∨ j = 9 ∨ j = 10 ∨ j = 11 ∨ j = 12 ∨ j = 13 ∨ j = 14 ∨ j = 15 ∨ j = 16 ∨ j = 17 ∨ j = 18 ∨ j = 19 := by omega
theorem PfxAt.ip {w : World} {O : Nat} {p : PV} (h : PfxAt w O p) : w.rangeAt O 0 (ipCells p.V p.x).toList := by
  intro j v hj
  rw [h.cell]
  have hl : j < 17 := (List.getElem?_eq_some_iff.1 hj).1
  have := lt20' (show j < 20 by omega)
  rcases this with rfl | rfl | rfl | rfl | rfl | rfl | rfl | rfl | rfl | rfl | rfl | rfl | rfl | rfl | rfl | rfl | rfl | rfl | rfl | rfl
  all_goals first | exact hj | omega
theorem PfxAt.ar {w : World} {O : Nat} {p : PV} (h : PfxAt w O p) : w.rangeAt O 1 (arCells p.x).toList := by
  intro j v hj
  rw [h.cell]
  have hl : j < 16 := (List.getElem?_eq_some_iff.1 hj).1
  have := lt20' (show j < 20 by omega)
  rcases this with rfl | rfl | rfl | rfl | rfl | rfl | rfl | rfl | rfl | rfl | rfl | rfl | rfl | rfl | rfl | rfl | rfl | rfl | rfl | rfl
  all_goals first | exact hj | omega
theorem IprAt.ar {w : World} {O : Nat} {V : Int} {x : Nat → Nat} (h : IprAt w O V x) : w.rangeAt O 1 (arCells x).toList := by
  intro j v hj
  rw [h.cell]
  have hl : j < 16 := (List.getElem?_eq_some_iff.1 hj).1
  have := lt20' (show j < 20 by omega)
  rcases this with rfl | rfl | rfl | rfl | rfl | rfl | rfl | rfl | rfl | rfl | rfl | rfl | rfl | rfl | rfl | rfl | rfl | rfl | rfl | rfl
  all_goals first | exact hj | omega
theorem PfxAt.cv {w : World} {O : Nat} {p : PV} (h : PfxAt w O p) : w.cell? ⟨O, 0, none⟩ = some (.int .i64 p.V) := h.cell 0
theorem PfxAt.cn {w : World} {O : Nat} {p : PV} (h : PfxAt w O p) : w.cell? ⟨O, 17, none⟩ = some (.int .i64 p.n) := h.cell 17
end Go.Proofs.YteldiggaooeeeaaGreatDoor
