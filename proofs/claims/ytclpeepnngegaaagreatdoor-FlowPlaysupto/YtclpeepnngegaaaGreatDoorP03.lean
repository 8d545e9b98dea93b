/-
  FlSt: lemmas of the proof of FlowPlays, and walks through the functions that it calls.
-/
import Derived.Deep.MidRow
import Derived.Laws.ResultCell
import Derived.Laws.BitsAllLaws
import Derived.Test.YtclpeepnngegaaaGreatDoorP00
import Derived.Test.YtclpeepnngegaaaGreatDoorP02
namespace Go.Proofs.YtclpeepnngegaaaGreatDoor
open Go.RowKit
structure TU where
  pr : Int
  sV : Int
  s : Nat → Nat
  dV : Int
  d : Nat → Nat
  sp : Int
  dp : Int
structure FN where
  x : TU
  po : Int
  st : Int
  le : Int
structure FV where
  n : FN
  P : Nat
structure CF where
  mx : Int
  oV : Int
  o : Nat → Nat
  lo : Int
  hi : Int
  sy : Int
  tc : Int
  fi : Int
  ud : Int
  ic : Int
structure PL where
  pr : Int
  po : Int
def tuC (x : TU) : Array Value := #[.int .i64 x.pr, .int .i64 x.sV, .int .u8 (x.s 0 : Nat), .int .u8 (x.s 1 : Nat), .int .u8 (x.s 2 : Nat), .int .u8 (x.s 3 : Nat), .int .u8 (x.s 4 : Nat), .int .u8 (x.s 5 : Nat), .int .u8 (x.s 6 : Nat), .int .u8 (x.s 7 : Nat), .int .u8 (x.s 8 : Nat), .int .u8 (x.s 9 : Nat), .int .u8 (x.s 10 : Nat), .int .u8 (x.s 11 : Nat), .int .u8 (x.s 12 : Nat), .int .u8 (x.s 13 : Nat), .int .u8 (x.s 14 : Nat), .int .u8 (x.s 15 : Nat), .int .i64 x.dV, .int .u8 (x.d 0 : Nat), .int .u8 (x.d 1 : Nat), .int .u8 (x.d 2 : Nat), .int .u8 (x.d 3 : Nat), .int .u8 (x.d 4 : Nat), .int .u8 (x.d 5 : Nat), .int .u8 (x.d 6 : Nat), .int .u8 (x.d 7 : Nat), .int .u8 (x.d 8 : Nat), .int .u8 (x.d 9 : Nat), .int .u8 (x.d 10 : Nat), .int .u8 (x.d 11 : Nat), .int .u8 (x.d 12 : Nat), .int .u8 (x.d 13 : Nat), .int .u8 (x.d 14 : Nat), .int .u8 (x.d 15 : Nat), .int .i64 x.sp, .int .i64 x.dp]
def flC (f : FN) : Array Value := #[.int .i64 f.x.pr, .int .i64 f.x.sV, .int .u8 (f.x.s 0 : Nat), .int .u8 (f.x.s 1 : Nat), .int .u8 (f.x.s 2 : Nat), .int .u8 (f.x.s 3 : Nat), .int .u8 (f.x.s 4 : Nat), .int .u8 (f.x.s 5 : Nat), .int .u8 (f.x.s 6 : Nat), .int .u8 (f.x.s 7 : Nat), .int .u8 (f.x.s 8 : Nat), .int .u8 (f.x.s 9 : Nat), .int .u8 (f.x.s 10 : Nat), .int .u8 (f.x.s 11 : Nat), .int .u8 (f.x.s 12 : Nat), .int .u8 (f.x.s 13 : Nat), .int .u8 (f.x.s 14 : Nat), .int .u8 (f.x.s 15 : Nat), .int .i64 f.x.dV, .int .u8 (f.x.d 0 : Nat), .int .u8 (f.x.d 1 : Nat), .int .u8 (f.x.d 2 : Nat), .int .u8 (f.x.d 3 : Nat), .int .u8 (f.x.d 4 : Nat), .int .u8 (f.x.d 5 : Nat), .int .u8 (f.x.d 6 : Nat), .int .u8 (f.x.d 7 : Nat), .int .u8 (f.x.d 8 : Nat), .int .u8 (f.x.d 9 : Nat), .int .u8 (f.x.d 10 : Nat), .int .u8 (f.x.d 11 : Nat), .int .u8 (f.x.d 12 : Nat), .int .u8 (f.x.d 13 : Nat), .int .u8 (f.x.d 14 : Nat), .int .u8 (f.x.d 15 : Nat), .int .i64 f.x.sp, .int .i64 f.x.dp, .int .i64 f.po, .int .i64 f.st, .int .i64 f.le]
def cfC (c : CF) : Array Value := #[.int .i64 c.mx, .int .i64 c.oV, .int .u8 (c.o 0 : Nat), .int .u8 (c.o 1 : Nat), .int .u8 (c.o 2 : Nat), .int .u8 (c.o 3 : Nat), .int .u8 (c.o 4 : Nat), .int .u8 (c.o 5 : Nat), .int .u8 (c.o 6 : Nat), .int .u8 (c.o 7 : Nat), .int .u8 (c.o 8 : Nat), .int .u8 (c.o 9 : Nat), .int .u8 (c.o 10 : Nat), .int .u8 (c.o 11 : Nat), .int .u8 (c.o 12 : Nat), .int .u8 (c.o 13 : Nat), .int .u8 (c.o 14 : Nat), .int .u8 (c.o 15 : Nat), .int .i64 c.lo, .int .i64 c.hi, .int .i64 c.sy, .int .i64 c.tc, .int .i64 c.fi, .int .i64 c.ud, .int .i64 c.ic]
def tbC (c : CF) (M N : Nat) : Array Value := #[.int .i64 c.mx, .int .i64 c.oV, .int .u8 (c.o 0 : Nat), .int .u8 (c.o 1 : Nat), .int .u8 (c.o 2 : Nat), .int .u8 (c.o 3 : Nat), .int .u8 (c.o 4 : Nat), .int .u8 (c.o 5 : Nat), .int .u8 (c.o 6 : Nat), .int .u8 (c.o 7 : Nat), .int .u8 (c.o 8 : Nat), .int .u8 (c.o 9 : Nat), .int .u8 (c.o 10 : Nat), .int .u8 (c.o 11 : Nat), .int .u8 (c.o 12 : Nat), .int .u8 (c.o 13 : Nat), .int .u8 (c.o 14 : Nat), .int .u8 (c.o 15 : Nat), .int .i64 c.lo, .int .i64 c.hi, .int .i64 c.sy, .int .i64 c.tc, .int .i64 c.fi, .int .i64 c.ud, .int .i64 c.ic, .map (some M), .map (some N)]
def plC (p : PL) : Array Value := #[.int .i64 p.pr, .int .i64 p.po]
def xz : TU := ⟨0, 0, fun _ => 0, 0, fun _ => 0, 0, 0⟩
def fz0 : FN := ⟨xz, 0, 0, 0⟩
def cz : CF := ⟨0, 0, fun _ => 0, 0, 0, 0, 0, 0, 0, 0⟩
def pz : PL := ⟨0, 0⟩
def TU.rev (x : TU) : TU := ⟨x.pr, x.dV, x.d, x.sV, x.s, x.dp, x.sp⟩
theorem Tryz.size_ipr : (Tryz.prog.info? 24).map (·.size) = some 17 := by kernel_rfl
def IprAt (w : World) (O : Nat) (V : Int) (f : Nat → Nat) : Prop := w.heap[O]? = some (.cells (ipCells V f) 24 (0, 0))
section
variable {w : World} {O : Nat} {V : Int} {f : Nat → Nat} (k : IprAt w O V f)
include k
theorem IprAt.lt : O < w.heap.size := (Array.getElem?_eq_some_iff.1 k).1
theorem IprAt.ch {S : Nat → Prop} {w' : World} (c : Ch S w w') (hS : ¬ S O) : IprAt w' O V f := (c.block O k.lt hS).trans k
theorem IprAt.below {w' : World} (c : Below w.heap.size w w') : IprAt w' O V f := (c.block O k.lt).trans k
theorem IprAt.cell (i : Nat) : w.cell? ⟨O, i, none⟩ = (ipCells V f)[i]? := by unfold IprAt at k; simp [World.cell?, k]
theorem IprAt.fz (j : Nat) : w.frozen? ⟨O, j, none⟩ = false := by unfold IprAt at k; simp [World.frozen?, k]
end
theorem ipr_new (w : World) (V : Int) (f : Nat → Nat) : IprAt (w.alloc (.cells (ipCells V f) 24)) w.heap.size V f := heap_alloc_new _ _
theorem wpList_load_ipr {ops : Array Oper} {rest : List Oper} {o : Oper} {a : Act} {w : World} {Q : Exit → Act → World → Prop} (x : Operand) (ho : o.op = .load 24 x) (O : Nat) (V : Int) (f : Nat → Nat) (hx : a.eval x = .pointer (some ⟨O, 0, none⟩)) (hb : IprAt w O V f)
 (hw : Region.wanted o (yielded ops a.tmps) = true) (hh : wpList Tryz.prog ops Q rest (a.put o.dst (.agg (ipCells V f))) w) : wpList Tryz.prog ops Q (o :: rest) a w := by
 refine wpList_step fun K hK => ?_
 rw [if_pos hw]
 exact wp_load_row 24 x ho O hx _ _ _ _ hb Tryz.underlying24 rfl Tryz.size_ipr (hK _ _ hh)
theorem wpList_store_ipr {ops : Array Oper} {rest : List Oper} {o : Oper} {a : Act} {w : World} {Q : Exit → Act → World → Prop} (x y : Operand) (ho : o.op = .store 24 x y) (hd : o.dst = none) (O : Nat) (V : Int) (f : Nat → Nat) (V' : Int) (f' : Nat → Nat) (hx : a.eval x = .pointer (some ⟨O, 0, none⟩)) (hy : a.eval y = .agg (ipCells V' f')) (hb : IprAt w O V f)
 (hw : Region.wanted o (yielded ops a.tmps) = true) (hh : ∀ w', IprAt w' O V' f' → Ch (fun q => q = O) w w' → wpList Tryz.prog ops Q rest a w') : wpList Tryz.prog ops Q (o :: rest) a w := by
 refine wpList_step fun K hK => ?_
 rw [if_pos hw]
 refine wp_store_row 24 x y ho O (ipCells V' f') hx hy _ (ipCells V f) hb Tryz.size_ipr rfl (by simp [ipCells, Value.oneCell']) (hK _ _ ?_)
 rw [hd]
 refine hh _ (setRow_heap w O _ _ _ _ hb) ⟨rfl, rfl, rfl, ?_, ?_⟩
 · simp [World.setRow]
 · intro k hk hne
   simp only [World.setRow]
   rw [Array.getElem?_modify, if_neg (fun e => hne e.symm)]
theorem wpList_alloc_ipr {ops : Array Oper} {rest : List Oper} {o : Oper} {a : Act} {w : World} {Q : Exit → Act → World → Prop} (ho : o.op = .alloc 24) (hw : Region.wanted o (yielded ops a.tmps) = true)
 (h : wpList Tryz.prog ops Q rest (a.put o.dst (.pointer (some ⟨w.heap.size, 0, none⟩))) (w.alloc (.cells (ipCells 0 (fun _ => 0)) 24))) : wpList Tryz.prog ops Q (o :: rest) a w := by
 refine wpList_step fun K hK => ?_
 rw [if_pos hw]
 have hrun : (execOp a.eval o).run Tryz.prog w = .ok (.value (.pointer (some ⟨w.heap.size, 0, none⟩))) (w.alloc (.cells (ipCells 0 (fun _ => 0)) 24)) := by
  obtain ⟨dst, op, type, pos, after, guard⟩ := o
  simp only at ho
  subst ho
  simp only [execOp]
  go_simp
  rfl
 unfold Oper.wp
 rw [hrun]
 exact hK _ _ h
theorem yields_ipr {ops : Array Oper} {o : Oper} {a : Act} {S : World → Prop} (x : Operand) (ho : o.op = .load 24 x) (O off : Nat) (V : Int) (f : Nat → Nat) (hx : a.eval x = .pointer (some ⟨O, off, none⟩)) (hw : Region.wanted o (yielded ops a.tmps) = true) (hS : ∀ w, S w → w.rangeAt O off (ipCells V f).toList) : YieldsIf Tryz.prog ops S o (.agg (ipCells V f)) a :=
 yieldsIf_load_mid hw 24 x ho O off hx (ipCells V f).toList _ hS Tryz.underlying24 rfl Tryz.size_ipr
theorem wpList_mid_ipr {ops : Array Oper} {rest : List Oper} {o : Oper} {a : Act} {w : World} {Q : Exit → Act → World → Prop} (x : Operand) (ho : o.op = .load 24 x) (O off : Nat) (V : Int) (f : Nat → Nat) (hx : a.eval x = .pointer (some ⟨O, off, none⟩)) (hb : w.rangeAt O off (ipCells V f).toList)
 (hw : Region.wanted o (yielded ops a.tmps) = true) (h : wpList Tryz.prog ops Q rest (a.put o.dst (.agg (ipCells V f))) w) : wpList Tryz.prog ops Q (o :: rest) a w := by
 refine wpList_step fun K hK => ?_
 rw [if_pos hw]
 exact wp_load_mid 24 x ho O off hx (ipCells V f).toList _ hb Tryz.underlying24 rfl Tryz.size_ipr (hK _ _ h)
theorem results_ipr {fn : Func} {p : Tmp} (h : fn.results = #[.cell p 24]) (tmps : Array Value) (w : World) (O : Nat) (V : Int) (f : Nat → Nat) (hp : tmps.getD p undef = .pointer (some ⟨O, 0, none⟩)) (hb : IprAt w O V f) :
 (results fn tmps).run Tryz.prog w = .ok (.agg (ipCells V f)) w :=
 results_cell_row h tmps w O _ (ipCells V f) _ _ hp hb Tryz.underlying24 rfl Tryz.size_ipr
theorem Tryz.size_tup : (Tryz.prog.info? 38).map (·.size) = some 37 := by kernel_rfl
def TupAt (w : World) (O : Nat) (xv : TU) : Prop := w.heap[O]? = some (.cells (tuC xv) 38 (0, 0))
section
variable {w : World} {O : Nat} {xv : TU} (k : TupAt w O xv)
include k
theorem TupAt.lt : O < w.heap.size := (Array.getElem?_eq_some_iff.1 k).1
theorem TupAt.ch {S : Nat → Prop} {w' : World} (c : Ch S w w') (hS : ¬ S O) : TupAt w' O xv := (c.block O k.lt hS).trans k
theorem TupAt.below {w' : World} (c : Below w.heap.size w w') : TupAt w' O xv := (c.block O k.lt).trans k
theorem TupAt.cell (i : Nat) : w.cell? ⟨O, i, none⟩ = (tuC xv)[i]? := by unfold TupAt at k; simp [World.cell?, k]
theorem TupAt.fz (j : Nat) : w.frozen? ⟨O, j, none⟩ = false := by unfold TupAt at k; simp [World.frozen?, k]
end
theorem tup_new (w : World) (xv : TU) : TupAt (w.alloc (.cells (tuC xv) 38)) w.heap.size xv := heap_alloc_new _ _
theorem wpList_load_tup {ops : Array Oper} {rest : List Oper} {o : Oper} {a : Act} {w : World} {Q : Exit → Act → World → Prop} (x : Operand) (ho : o.op = .load 38 x) (O : Nat) (xv : TU) (hx : a.eval x = .pointer (some ⟨O, 0, none⟩)) (hb : TupAt w O xv)
 (hw : Region.wanted o (yielded ops a.tmps) = true) (hh : wpList Tryz.prog ops Q rest (a.put o.dst (.agg (tuC xv))) w) : wpList Tryz.prog ops Q (o :: rest) a w := by
 refine wpList_step fun K hK => ?_
 rw [if_pos hw]
 exact wp_load_row 38 x ho O hx _ _ _ _ hb Tryz.underlying38 rfl Tryz.size_tup (hK _ _ hh)
theorem wpList_store_tup {ops : Array Oper} {rest : List Oper} {o : Oper} {a : Act} {w : World} {Q : Exit → Act → World → Prop} (x y : Operand) (ho : o.op = .store 38 x y) (hd : o.dst = none) (O : Nat) (xv : TU) (xv' : TU) (hx : a.eval x = .pointer (some ⟨O, 0, none⟩)) (hy : a.eval y = .agg (tuC xv')) (hb : TupAt w O xv)
 (hw : Region.wanted o (yielded ops a.tmps) = true) (hh : ∀ w', TupAt w' O xv' → Ch (fun q => q = O) w w' → wpList Tryz.prog ops Q rest a w') : wpList Tryz.prog ops Q (o :: rest) a w := by
 refine wpList_step fun K hK => ?_
 rw [if_pos hw]
 refine wp_store_row 38 x y ho O (tuC xv') hx hy _ (tuC xv) hb Tryz.size_tup rfl (by simp [tuC, Value.oneCell']) (hK _ _ ?_)
 rw [hd]
 refine hh _ (setRow_heap w O _ _ _ _ hb) ⟨rfl, rfl, rfl, ?_, ?_⟩
 · simp [World.setRow]
 · intro k hk hne
   simp only [World.setRow]
   rw [Array.getElem?_modify, if_neg (fun e => hne e.symm)]
theorem wpList_alloc_tup {ops : Array Oper} {rest : List Oper} {o : Oper} {a : Act} {w : World} {Q : Exit → Act → World → Prop} (ho : o.op = .alloc 38) (hw : Region.wanted o (yielded ops a.tmps) = true)
 (h : wpList Tryz.prog ops Q rest (a.put o.dst (.pointer (some ⟨w.heap.size, 0, none⟩))) (w.alloc (.cells (tuC xz) 38))) : wpList Tryz.prog ops Q (o :: rest) a w := by
 refine wpList_step fun K hK => ?_
 rw [if_pos hw]
 have hrun : (execOp a.eval o).run Tryz.prog w = .ok (.value (.pointer (some ⟨w.heap.size, 0, none⟩))) (w.alloc (.cells (tuC xz) 38)) := by
  obtain ⟨dst, op, type, pos, after, guard⟩ := o
  simp only at ho
  subst ho
  simp only [execOp]
  go_simp
  rfl
 unfold Oper.wp
 rw [hrun]
 exact hK _ _ h
theorem yields_tup {ops : Array Oper} {o : Oper} {a : Act} {S : World → Prop} (x : Operand) (ho : o.op = .load 38 x) (O off : Nat) (xv : TU) (hx : a.eval x = .pointer (some ⟨O, off, none⟩)) (hw : Region.wanted o (yielded ops a.tmps) = true) (hS : ∀ w, S w → w.rangeAt O off (tuC xv).toList) : YieldsIf Tryz.prog ops S o (.agg (tuC xv)) a :=
 yieldsIf_load_mid hw 38 x ho O off hx (tuC xv).toList _ hS Tryz.underlying38 rfl Tryz.size_tup
theorem wpList_mid_tup {ops : Array Oper} {rest : List Oper} {o : Oper} {a : Act} {w : World} {Q : Exit → Act → World → Prop} (x : Operand) (ho : o.op = .load 38 x) (O off : Nat) (xv : TU) (hx : a.eval x = .pointer (some ⟨O, off, none⟩)) (hb : w.rangeAt O off (tuC xv).toList)
 (hw : Region.wanted o (yielded ops a.tmps) = true) (h : wpList Tryz.prog ops Q rest (a.put o.dst (.agg (tuC xv))) w) : wpList Tryz.prog ops Q (o :: rest) a w := by
 refine wpList_step fun K hK => ?_
 rw [if_pos hw]
 exact wp_load_mid 38 x ho O off hx (tuC xv).toList _ hb Tryz.underlying38 rfl Tryz.size_tup (hK _ _ h)
theorem results_tup {fn : Func} {p : Tmp} (h : fn.results = #[.cell p 38]) (tmps : Array Value) (w : World) (O : Nat) (xv : TU) (hp : tmps.getD p undef = .pointer (some ⟨O, 0, none⟩)) (hb : TupAt w O xv) :
 (results fn tmps).run Tryz.prog w = .ok (.agg (tuC xv)) w :=
 results_cell_row h tmps w O _ (tuC xv) _ _ hp hb Tryz.underlying38 rfl Tryz.size_tup
theorem Tryz.size_flo : (Tryz.prog.info? 72).map (·.size) = some 40 := by kernel_rfl
def FloAt (w : World) (O : Nat) (fv : FN) : Prop := w.heap[O]? = some (.cells (flC fv) 72 (0, 0))
section
variable {w : World} {O : Nat} {fv : FN} (k : FloAt w O fv)
include k
theorem FloAt.lt : O < w.heap.size := (Array.getElem?_eq_some_iff.1 k).1
theorem FloAt.ch {S : Nat → Prop} {w' : World} (c : Ch S w w') (hS : ¬ S O) : FloAt w' O fv := (c.block O k.lt hS).trans k
theorem FloAt.below {w' : World} (c : Below w.heap.size w w') : FloAt w' O fv := (c.block O k.lt).trans k
theorem FloAt.cell (i : Nat) : w.cell? ⟨O, i, none⟩ = (flC fv)[i]? := by unfold FloAt at k; simp [World.cell?, k]
theorem FloAt.fz (j : Nat) : w.frozen? ⟨O, j, none⟩ = false := by unfold FloAt at k; simp [World.frozen?, k]
end
theorem flo_new (w : World) (fv : FN) : FloAt (w.alloc (.cells (flC fv) 72)) w.heap.size fv := heap_alloc_new _ _
theorem wpList_load_flo {ops : Array Oper} {rest : List Oper} {o : Oper} {a : Act} {w : World} {Q : Exit → Act → World → Prop} (x : Operand) (ho : o.op = .load 72 x) (O : Nat) (fv : FN) (hx : a.eval x = .pointer (some ⟨O, 0, none⟩)) (hb : FloAt w O fv)
 (hw : Region.wanted o (yielded ops a.tmps) = true) (hh : wpList Tryz.prog ops Q rest (a.put o.dst (.agg (flC fv))) w) : wpList Tryz.prog ops Q (o :: rest) a w := by
 refine wpList_step fun K hK => ?_
 rw [if_pos hw]
 exact wp_load_row 72 x ho O hx _ _ _ _ hb Tryz.underlying72 rfl Tryz.size_flo (hK _ _ hh)
theorem wpList_store_flo {ops : Array Oper} {rest : List Oper} {o : Oper} {a : Act} {w : World} {Q : Exit → Act → World → Prop} (x y : Operand) (ho : o.op = .store 72 x y) (hd : o.dst = none) (O : Nat) (fv : FN) (fv' : FN) (hx : a.eval x = .pointer (some ⟨O, 0, none⟩)) (hy : a.eval y = .agg (flC fv')) (hb : FloAt w O fv)
 (hw : Region.wanted o (yielded ops a.tmps) = true) (hh : ∀ w', FloAt w' O fv' → Ch (fun q => q = O) w w' → wpList Tryz.prog ops Q rest a w') : wpList Tryz.prog ops Q (o :: rest) a w := by
 refine wpList_step fun K hK => ?_
 rw [if_pos hw]
 refine wp_store_row 72 x y ho O (flC fv') hx hy _ (flC fv) hb Tryz.size_flo rfl (by simp [flC, Value.oneCell']) (hK _ _ ?_)
 rw [hd]
 refine hh _ (setRow_heap w O _ _ _ _ hb) ⟨rfl, rfl, rfl, ?_, ?_⟩
 · simp [World.setRow]
 · intro k hk hne
   simp only [World.setRow]
   rw [Array.getElem?_modify, if_neg (fun e => hne e.symm)]
theorem wpList_alloc_flo {ops : Array Oper} {rest : List Oper} {o : Oper} {a : Act} {w : World} {Q : Exit → Act → World → Prop} (ho : o.op = .alloc 72) (hw : Region.wanted o (yielded ops a.tmps) = true)
 (h : wpList Tryz.prog ops Q rest (a.put o.dst (.pointer (some ⟨w.heap.size, 0, none⟩))) (w.alloc (.cells (flC fz0) 72))) : wpList Tryz.prog ops Q (o :: rest) a w := by
 refine wpList_step fun K hK => ?_
 rw [if_pos hw]
 have hrun : (execOp a.eval o).run Tryz.prog w = .ok (.value (.pointer (some ⟨w.heap.size, 0, none⟩))) (w.alloc (.cells (flC fz0) 72)) := by
  obtain ⟨dst, op, type, pos, after, guard⟩ := o
  simp only at ho
  subst ho
  simp only [execOp]
  go_simp
  rfl
 unfold Oper.wp
 rw [hrun]
 exact hK _ _ h
theorem yields_flo {ops : Array Oper} {o : Oper} {a : Act} {S : World → Prop} (x : Operand) (ho : o.op = .load 72 x) (O off : Nat) (fv : FN) (hx : a.eval x = .pointer (some ⟨O, off, none⟩)) (hw : Region.wanted o (yielded ops a.tmps) = true) (hS : ∀ w, S w → w.rangeAt O off (flC fv).toList) : YieldsIf Tryz.prog ops S o (.agg (flC fv)) a :=
 yieldsIf_load_mid hw 72 x ho O off hx (flC fv).toList _ hS Tryz.underlying72 rfl Tryz.size_flo
theorem wpList_mid_flo {ops : Array Oper} {rest : List Oper} {o : Oper} {a : Act} {w : World} {Q : Exit → Act → World → Prop} (x : Operand) (ho : o.op = .load 72 x) (O off : Nat) (fv : FN) (hx : a.eval x = .pointer (some ⟨O, off, none⟩)) (hb : w.rangeAt O off (flC fv).toList)
 (hw : Region.wanted o (yielded ops a.tmps) = true) (h : wpList Tryz.prog ops Q rest (a.put o.dst (.agg (flC fv))) w) : wpList Tryz.prog ops Q (o :: rest) a w := by
 refine wpList_step fun K hK => ?_
 rw [if_pos hw]
 exact wp_load_mid 72 x ho O off hx (flC fv).toList _ hb Tryz.underlying72 rfl Tryz.size_flo (hK _ _ h)
theorem Tryz.size_cfg : (Tryz.prog.info? 26).map (·.size) = some 25 := by kernel_rfl
def CfgAt (w : World) (O : Nat) (cv : CF) : Prop := w.heap[O]? = some (.cells (cfC cv) 26 (0, 0))
section
variable {w : World} {O : Nat} {cv : CF} (k : CfgAt w O cv)
include k
theorem CfgAt.lt : O < w.heap.size := (Array.getElem?_eq_some_iff.1 k).1
theorem CfgAt.ch {S : Nat → Prop} {w' : World} (c : Ch S w w') (hS : ¬ S O) : CfgAt w' O cv := (c.block O k.lt hS).trans k
theorem CfgAt.below {w' : World} (c : Below w.heap.size w w') : CfgAt w' O cv := (c.block O k.lt).trans k
theorem CfgAt.cell (i : Nat) : w.cell? ⟨O, i, none⟩ = (cfC cv)[i]? := by unfold CfgAt at k; simp [World.cell?, k]
end
theorem cfg_new (w : World) (cv : CF) : CfgAt (w.alloc (.cells (cfC cv) 26)) w.heap.size cv := heap_alloc_new _ _
theorem wpList_load_cfg {ops : Array Oper} {rest : List Oper} {o : Oper} {a : Act} {w : World} {Q : Exit → Act → World → Prop} (x : Operand) (ho : o.op = .load 26 x) (O : Nat) (cv : CF) (hx : a.eval x = .pointer (some ⟨O, 0, none⟩)) (hb : CfgAt w O cv)
 (hw : Region.wanted o (yielded ops a.tmps) = true) (hh : wpList Tryz.prog ops Q rest (a.put o.dst (.agg (cfC cv))) w) : wpList Tryz.prog ops Q (o :: rest) a w := by
 refine wpList_step fun K hK => ?_
 rw [if_pos hw]
 exact wp_load_row 26 x ho O hx _ _ _ _ hb Tryz.underlying26 rfl Tryz.size_cfg (hK _ _ hh)
theorem wpList_store_cfg {ops : Array Oper} {rest : List Oper} {o : Oper} {a : Act} {w : World} {Q : Exit → Act → World → Prop} (x y : Operand) (ho : o.op = .store 26 x y) (hd : o.dst = none) (O : Nat) (cv : CF) (cv' : CF) (hx : a.eval x = .pointer (some ⟨O, 0, none⟩)) (hy : a.eval y = .agg (cfC cv')) (hb : CfgAt w O cv)
 (hw : Region.wanted o (yielded ops a.tmps) = true) (hh : ∀ w', CfgAt w' O cv' → Ch (fun q => q = O) w w' → wpList Tryz.prog ops Q rest a w') : wpList Tryz.prog ops Q (o :: rest) a w := by
 refine wpList_step fun K hK => ?_
 rw [if_pos hw]
 refine wp_store_row 26 x y ho O (cfC cv') hx hy _ (cfC cv) hb Tryz.size_cfg rfl (by simp [cfC, Value.oneCell']) (hK _ _ ?_)
 rw [hd]
 refine hh _ (setRow_heap w O _ _ _ _ hb) ⟨rfl, rfl, rfl, ?_, ?_⟩
 · simp [World.setRow]
 · intro k hk hne
   simp only [World.setRow]
   rw [Array.getElem?_modify, if_neg (fun e => hne e.symm)]
theorem wpList_alloc_cfg {ops : Array Oper} {rest : List Oper} {o : Oper} {a : Act} {w : World} {Q : Exit → Act → World → Prop} (ho : o.op = .alloc 26) (hw : Region.wanted o (yielded ops a.tmps) = true)
 (h : wpList Tryz.prog ops Q rest (a.put o.dst (.pointer (some ⟨w.heap.size, 0, none⟩))) (w.alloc (.cells (cfC cz) 26))) : wpList Tryz.prog ops Q (o :: rest) a w := by
 refine wpList_step fun K hK => ?_
 rw [if_pos hw]
 have hrun : (execOp a.eval o).run Tryz.prog w = .ok (.value (.pointer (some ⟨w.heap.size, 0, none⟩))) (w.alloc (.cells (cfC cz) 26)) := by
  obtain ⟨dst, op, type, pos, after, guard⟩ := o
  simp only at ho
  subst ho
  simp only [execOp]
  go_simp
  rfl
 unfold Oper.wp
 rw [hrun]
 exact hK _ _ h
theorem yields_cfg {ops : Array Oper} {o : Oper} {a : Act} {S : World → Prop} (x : Operand) (ho : o.op = .load 26 x) (O off : Nat) (cv : CF) (hx : a.eval x = .pointer (some ⟨O, off, none⟩)) (hw : Region.wanted o (yielded ops a.tmps) = true) (hS : ∀ w, S w → w.rangeAt O off (cfC cv).toList) : YieldsIf Tryz.prog ops S o (.agg (cfC cv)) a :=
 yieldsIf_load_mid hw 26 x ho O off hx (cfC cv).toList _ hS Tryz.underlying26 rfl Tryz.size_cfg
theorem results_cfg {fn : Func} {p : Tmp} (h : fn.results = #[.cell p 26]) (tmps : Array Value) (w : World) (O : Nat) (cv : CF) (hp : tmps.getD p undef = .pointer (some ⟨O, 0, none⟩)) (hb : CfgAt w O cv) :
 (results fn tmps).run Tryz.prog w = .ok (.agg (cfC cv)) w :=
 results_cell_row h tmps w O _ (cfC cv) _ _ hp hb Tryz.underlying26 rfl Tryz.size_cfg
def PlcAt (w : World) (O : Nat) (pv : PL) : Prop := w.heap[O]? = some (.cells (plC pv) 102 (0, 0))
section
variable {w : World} {O : Nat} {pv : PL} (k : PlcAt w O pv)
include k
end
theorem lt20' {j : Nat} (h : j < 20) : j = 0 ∨ j = 1 ∨ j = 2 ∨ j = 3 ∨ j = 4 ∨ j = 5 ∨ j = 6 ∨ j = 7 ∨ j = 8 ∨ j = 9 ∨ j = 10 ∨ j = 11 ∨ j = 12 ∨ j = 13 ∨ j = 14 ∨ j = 15 ∨ j = 16 ∨ j = 17 ∨ j = 18 ∨ j = 19 := by omega
theorem setCells_snoc' : ∀ (cs : List Value) (w : World) (O i : Nat) (C : Array Value) (T : TypeId), w.heap[O]? = some (.cells C T (0, 0)) → (w.setCells O i cs).heap[O]? = some (.cells (cs.foldl (fun (s : Nat × Array Value) v => (s.1 + 1, s.2.setIfInBounds s.1 v)) (i, C)).2 T (0, 0))
 | [], w, O, i, C, T, h => h
 | v :: cs, w, O, i, C, T, h => by
  have := setCells_snoc' cs (w.setCell ⟨O, i, none⟩ v) O (i + 1) (C.setIfInBounds i v) T (heap_setCell_same w O i _ _ v h)
  exact this
theorem heap_setCells_row {w : World} {O i : Nat} {C D : Array Value} {T : TypeId} {cs : List Value} (h : w.heap[O]? = some (.cells C T (0, 0))) (hD : (cs.foldl (fun (s : Nat × Array Value) v => (s.1 + 1, s.2.setIfInBounds s.1 v)) (i, C)).2 = D) : (w.setCells O i cs).heap[O]? = some (.cells D T (0, 0)) := by
 rw [setCells_snoc' cs w O i C T h, hD]
theorem Ch.sets {S : Nat → Prop} {w w' : World} (h : Ch S w w') (O : Nat) : ∀ (i : Nat) (cs : List Value), S O → Ch S w (w'.setCells O i cs)
 | _, [], _ => h
 | i, v :: cs, hS => (h.set ⟨O, i, none⟩ v hS).sets O (i + 1) cs hS
theorem TupAt.src {w : World} {O : Nat} {p : TU} (h : TupAt w O p) : w.rangeAt O 1 (ipCells p.sV p.s).toList := by
 intro j v hj
 rw [h.cell]
 have hl : j < 17 := (List.getElem?_eq_some_iff.1 hj).1
 have : j = 0 ∨ j = 1 ∨ j = 2 ∨ j = 3 ∨ j = 4 ∨ j = 5 ∨ j = 6 ∨ j = 7 ∨ j = 8 ∨ j = 9 ∨ j = 10 ∨ j = 11 ∨ j = 12 ∨ j = 13 ∨ j = 14 ∨ j = 15 ∨ j = 16 := by omega
 clear hl
 rcases this with rfl | rfl | rfl | rfl | rfl | rfl | rfl | rfl | rfl | rfl | rfl | rfl | rfl | rfl | rfl | rfl | rfl <;> exact hj
theorem TupAt.dst {w : World} {O : Nat} {p : TU} (h : TupAt w O p) : w.rangeAt O 18 (ipCells p.dV p.d).toList := by
 intro j v hj
 rw [h.cell]
 have hl : j < 17 := (List.getElem?_eq_some_iff.1 hj).1
 have : j = 0 ∨ j = 1 ∨ j = 2 ∨ j = 3 ∨ j = 4 ∨ j = 5 ∨ j = 6 ∨ j = 7 ∨ j = 8 ∨ j = 9 ∨ j = 10 ∨ j = 11 ∨ j = 12 ∨ j = 13 ∨ j = 14 ∨ j = 15 ∨ j = 16 := by omega
 clear hl
 rcases this with rfl | rfl | rfl | rfl | rfl | rfl | rfl | rfl | rfl | rfl | rfl | rfl | rfl | rfl | rfl | rfl | rfl <;> exact hj
theorem FloAt.tup {w : World} {O : Nat} {p : FN} (h : FloAt w O p) : w.rangeAt O 0 (tuC p.x).toList := by
 intro j v hj
 rw [Nat.zero_add, h.cell]
 have hl : j < 37 := (List.getElem?_eq_some_iff.1 hj).1
 have : j = 0 ∨ j = 1 ∨ j = 2 ∨ j = 3 ∨ j = 4 ∨ j = 5 ∨ j = 6 ∨ j = 7 ∨ j = 8 ∨ j = 9 ∨ j = 10 ∨ j = 11 ∨ j = 12 ∨ j = 13 ∨ j = 14 ∨ j = 15 ∨ j = 16 ∨ j = 17 ∨ j = 18 ∨ j = 19 ∨ j = 20 ∨ j = 21 ∨ j = 22 ∨ j = 23 ∨ j = 24 ∨ j = 25 ∨ j = 26 ∨ j = 27 ∨ j = 28 ∨ j = 29 ∨ j = 30 ∨ j = 31 ∨ j = 32 ∨ j = 33 ∨ j = 34 ∨ j = 35 ∨ j = 36 := by omega
 clear hl
 rcases this with rfl | rfl | rfl | rfl | rfl | rfl | rfl | rfl | rfl | rfl | rfl | rfl | rfl | rfl | rfl | rfl | rfl | rfl | rfl | rfl | rfl | rfl | rfl | rfl | rfl | rfl | rfl | rfl | rfl | rfl | rfl | rfl | rfl | rfl | rfl | rfl | rfl <;> exact hj
theorem CfgAt.out {w : World} {O : Nat} {p : CF} (h : CfgAt w O p) : w.rangeAt O 1 (ipCells p.oV p.o).toList := by
 intro j v hj
 rw [h.cell]
 have hl : j < 17 := (List.getElem?_eq_some_iff.1 hj).1
 have : j = 0 ∨ j = 1 ∨ j = 2 ∨ j = 3 ∨ j = 4 ∨ j = 5 ∨ j = 6 ∨ j = 7 ∨ j = 8 ∨ j = 9 ∨ j = 10 ∨ j = 11 ∨ j = 12 ∨ j = 13 ∨ j = 14 ∨ j = 15 ∨ j = 16 := by omega
 clear hl
 rcases this with rfl | rfl | rfl | rfl | rfl | rfl | rfl | rfl | rfl | rfl | rfl | rfl | rfl | rfl | rfl | rfl | rfl <;> exact hj
theorem TupAt.all {w : World} {O : Nat} {p : TU} (h : TupAt w O p) : w.rangeAt O 0 (tuC p).toList := by
 intro j v hj
 rw [Nat.zero_add, h.cell]
 simpa using hj
theorem set_src_cells (p : TU) (V : Int) (f : Nat → Nat) : ((ipCells V f).toList.foldl (fun (s : Nat × Array Value) v => (s.1 + 1, s.2.setIfInBounds s.1 v)) (1, tuC p)).2 = tuC { p with sV := V, s := f } := by
 simp only [ipCells, tuC, List.foldl_cons, List.foldl_nil, List.setIfInBounds_toArray, List.set_cons_succ, List.set_cons_zero, Nat.reduceAdd]
theorem wpList_set_src {ops : Array Oper} {rest : List Oper} {o : Oper} {a : Act} {w : World} {Q : Exit → Act → World → Prop} (x y : Operand) (ho : o.op = .store 24 x y) (hd : o.dst = none) (O : Nat) (p : TU) (V : Int) (f : Nat → Nat) (hx : a.eval x = .pointer (some ⟨O, 1, none⟩)) (hy : a.eval y = .agg (ipCells V f)) (hb : TupAt w O p)
 (hw : Region.wanted o (yielded ops a.tmps) = true) (hh : ∀ w', TupAt w' O { p with sV := V, s := f } → Ch (fun q => q = O) w w' → wpList Tryz.prog ops Q rest a w') : wpList Tryz.prog ops Q (o :: rest) a w := by
 have ht : w.there O 1 (ipCells V f).size := fun j hj => by
  have hj' : j < 17 := hj
  refine ⟨?_, hb.fz _⟩
  rw [hb.cell]
  have : j = 0 ∨ j = 1 ∨ j = 2 ∨ j = 3 ∨ j = 4 ∨ j = 5 ∨ j = 6 ∨ j = 7 ∨ j = 8 ∨ j = 9 ∨ j = 10 ∨ j = 11 ∨ j = 12 ∨ j = 13 ∨ j = 14 ∨ j = 15 ∨ j = 16 := by omega
  clear hj hj'
  rcases this with rfl | rfl | rfl | rfl | rfl | rfl | rfl | rfl | rfl | rfl | rfl | rfl | rfl | rfl | rfl | rfl | rfl <;> rfl
 refine wpList_step fun K hK => ?_
 rw [if_pos hw]
 refine wp_store_mid 24 x y ho O 1 (ipCells V f) hx hy ht Tryz.size_ipr (by simp [ipCells, Value.oneCell']) (hK _ _ ?_)
 rw [hd]
 refine hh _ ?_ ((Ch.refl (fun q => q = O) w).sets _ _ _ rfl)
 unfold TupAt at hb ⊢
 exact heap_setCells_row hb (set_src_cells p V f)
theorem set_dst_cells (p : TU) (V : Int) (f : Nat → Nat) : ((ipCells V f).toList.foldl (fun (s : Nat × Array Value) v => (s.1 + 1, s.2.setIfInBounds s.1 v)) (18, tuC p)).2 = tuC { p with dV := V, d := f } := by
 simp only [ipCells, tuC, List.foldl_cons, List.foldl_nil, List.setIfInBounds_toArray, List.set_cons_succ, List.set_cons_zero, Nat.reduceAdd]
theorem wpList_set_dst {ops : Array Oper} {rest : List Oper} {o : Oper} {a : Act} {w : World} {Q : Exit → Act → World → Prop} (x y : Operand) (ho : o.op = .store 24 x y) (hd : o.dst = none) (O : Nat) (p : TU) (V : Int) (f : Nat → Nat) (hx : a.eval x = .pointer (some ⟨O, 18, none⟩)) (hy : a.eval y = .agg (ipCells V f)) (hb : TupAt w O p)
 (hw : Region.wanted o (yielded ops a.tmps) = true) (hh : ∀ w', TupAt w' O { p with dV := V, d := f } → Ch (fun q => q = O) w w' → wpList Tryz.prog ops Q rest a w') : wpList Tryz.prog ops Q (o :: rest) a w := by
 have ht : w.there O 18 (ipCells V f).size := fun j hj => by
  have hj' : j < 17 := hj
  refine ⟨?_, hb.fz _⟩
  rw [hb.cell]
  have : j = 0 ∨ j = 1 ∨ j = 2 ∨ j = 3 ∨ j = 4 ∨ j = 5 ∨ j = 6 ∨ j = 7 ∨ j = 8 ∨ j = 9 ∨ j = 10 ∨ j = 11 ∨ j = 12 ∨ j = 13 ∨ j = 14 ∨ j = 15 ∨ j = 16 := by omega
  clear hj hj'
  rcases this with rfl | rfl | rfl | rfl | rfl | rfl | rfl | rfl | rfl | rfl | rfl | rfl | rfl | rfl | rfl | rfl | rfl <;> rfl
 refine wpList_step fun K hK => ?_
 rw [if_pos hw]
 refine wp_store_mid 24 x y ho O 18 (ipCells V f) hx hy ht Tryz.size_ipr (by simp [ipCells, Value.oneCell']) (hK _ _ ?_)
 rw [hd]
 refine hh _ ?_ ((Ch.refl (fun q => q = O) w).sets _ _ _ rfl)
 unfold TupAt at hb ⊢
 exact heap_setCells_row hb (set_dst_cells p V f)
def TblAt (w : World) (t : Nat) (c : CF) (M N : Nat) : Prop := w.heap[t]? = some (.cells (tbC c M N) 70 (0, 0))
section
variable {w : World} {t M N : Nat} {c : CF} (k : TblAt w t c M N)
include k
theorem TblAt.lt : t < w.heap.size := (Array.getElem?_eq_some_iff.1 k).1
theorem TblAt.ch {S : Nat → Prop} {w' : World} (h : Ch S w w') (hS : ¬ S t) : TblAt w' t c M N := (h.block t (TblAt.lt k) hS).trans k
theorem TblAt.below {w' : World} (h : Below w.heap.size w w') : TblAt w' t c M N := (h.block t (TblAt.lt k)).trans k
theorem TblAt.cell (i : Nat) : w.cell? ⟨t, i, none⟩ = (tbC c M N)[i]? := by unfold TblAt at k; simp [World.cell?, k]
theorem TblAt.mp : w.cell? ⟨t, 25, none⟩ = some (.map (some M)) := TblAt.cell k 25
theorem TblAt.mq : w.cell? ⟨t, 26, none⟩ = some (.map (some N)) := TblAt.cell k 26
theorem TblAt.cf : w.rangeAt t 0 (cfC c).toList := by
 intro j v hj
 rw [Nat.zero_add, TblAt.cell k]
 have hl : j < 25 := (List.getElem?_eq_some_iff.1 hj).1
 have : j = 0 ∨ j = 1 ∨ j = 2 ∨ j = 3 ∨ j = 4 ∨ j = 5 ∨ j = 6 ∨ j = 7 ∨ j = 8 ∨ j = 9 ∨ j = 10 ∨ j = 11 ∨ j = 12 ∨ j = 13 ∨ j = 14 ∨ j = 15 ∨ j = 16 ∨ j = 17 ∨ j = 18 ∨ j = 19 ∨ j = 20 ∨ j = 21 ∨ j = 22 ∨ j = 23 ∨ j = 24 := by omega
 clear hl
 rcases this with rfl | rfl | rfl | rfl | rfl | rfl | rfl | rfl | rfl | rfl | rfl | rfl | rfl | rfl | rfl | rfl | rfl | rfl | rfl | rfl | rfl | rfl | rfl | rfl | rfl <;> exact hj
theorem TblAt.out : w.rangeAt t 1 (ipCells c.oV c.o).toList := by
 intro j v hj
 rw [TblAt.cell k]
 have hl : j < 17 := (List.getElem?_eq_some_iff.1 hj).1
 have : j = 0 ∨ j = 1 ∨ j = 2 ∨ j = 3 ∨ j = 4 ∨ j = 5 ∨ j = 6 ∨ j = 7 ∨ j = 8 ∨ j = 9 ∨ j = 10 ∨ j = 11 ∨ j = 12 ∨ j = 13 ∨ j = 14 ∨ j = 15 ∨ j = 16 := by omega
 clear hl
 rcases this with rfl | rfl | rfl | rfl | rfl | rfl | rfl | rfl | rfl | rfl | rfl | rfl | rfl | rfl | rfl | rfl | rfl <;> exact hj
end
def eqI (V : Int) (x : Nat → Nat) (U : Int) (y : Nat → Nat) : Bool := V == U && same16 x y
end Go.Proofs.YtclpeepnngegaaaGreatDoor
