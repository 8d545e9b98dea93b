/-
  Layer 15: keys, entries, neighbours, asks, configurations in memory.
-/
import Derived.Test.YtnpipngiehohgaaI4Ip
import Derived.Test.YtnpipngiehohgaaPSplit
import Derived.Test.YtnpipngiehohgaaMixH
import Derived.Deep.MidRow
import Derived.Laws.ResultCell
import Derived.Laws.BitsAllLaws
namespace Go.Proofs.Ytnpipngiehohgaa
open Go.RowKit

structure KV where
  pt : Int
  V : Int
  x : Nat → Nat
/-- an entry in numbers -/
structure EN where
  k : KV
  m : Nat → Nat
  st : Int
  ag : Int
  tr : Int
  ln : List Int
/-- an entry, where it lies, its line's slice -/
structure EV where
  n : EN
  P : Nat
  lv : Value
structure CF where
  mx : Int
  li : Int
  ev : Int
  tr : Int
  fr : Int
def macC (m : Nat → Nat) : Array Value := #[.int .u8 (m 0 : Nat), .int .u8 (m 1 : Nat), .int .u8 (m 2 : Nat), .int .u8 (m 3 : Nat), .int .u8 (m 4 : Nat), .int .u8 (m 5 : Nat)]
def kC (k : KV) : Array Value := #[.int .i64 k.pt, .int .i64 k.V, .int .u8 (k.x 0 : Nat), .int .u8 (k.x 1 : Nat), .int .u8 (k.x 2 : Nat), .int .u8 (k.x 3 : Nat), .int .u8 (k.x 4 : Nat), .int .u8 (k.x 5 : Nat), .int .u8 (k.x 6 : Nat), .int .u8 (k.x 7 : Nat), .int .u8 (k.x 8 : Nat), .int .u8 (k.x 9 : Nat), .int .u8 (k.x 10 : Nat), .int .u8 (k.x 11 : Nat), .int .u8 (k.x 12 : Nat), .int .u8 (k.x 13 : Nat), .int .u8 (k.x 14 : Nat), .int .u8 (k.x 15 : Nat)]
def enC (e : EV) : Array Value := #[.int .u8 (e.n.m 0 : Nat), .int .u8 (e.n.m 1 : Nat), .int .u8 (e.n.m 2 : Nat), .int .u8 (e.n.m 3 : Nat), .int .u8 (e.n.m 4 : Nat), .int .u8 (e.n.m 5 : Nat), .int .i64 e.n.st, .int .i64 e.n.ag, .int .i64 e.n.tr, e.lv]
def cfC (c : CF) : Array Value := #[.int .i64 c.mx, .int .i64 c.li, .int .i64 c.ev, .int .i64 c.tr, .int .i64 c.fr]
def chC (c : CF) (M : Nat) : Array Value := #[.int .i64 c.mx, .int .i64 c.li, .int .i64 c.ev, .int .i64 c.tr, .int .i64 c.fr, .map (some M)]
/-- what is told of an entry -/
structure NB where
  k : KV
  m : Nat → Nat
  st : Int
  ag : Int
  tr : Int
  wt : Int
def nbC (e : NB) : Array Value := #[.int .i64 e.k.pt, .int .i64 e.k.V, .int .u8 (e.k.x 0 : Nat), .int .u8 (e.k.x 1 : Nat), .int .u8 (e.k.x 2 : Nat), .int .u8 (e.k.x 3 : Nat), .int .u8 (e.k.x 4 : Nat), .int .u8 (e.k.x 5 : Nat), .int .u8 (e.k.x 6 : Nat), .int .u8 (e.k.x 7 : Nat), .int .u8 (e.k.x 8 : Nat), .int .u8 (e.k.x 9 : Nat), .int .u8 (e.k.x 10 : Nat), .int .u8 (e.k.x 11 : Nat), .int .u8 (e.k.x 12 : Nat), .int .u8 (e.k.x 13 : Nat), .int .u8 (e.k.x 14 : Nat), .int .u8 (e.k.x 15 : Nat), .int .u8 (e.m 0 : Nat), .int .u8 (e.m 1 : Nat), .int .u8 (e.m 2 : Nat), .int .u8 (e.m 3 : Nat), .int .u8 (e.m 4 : Nat), .int .u8 (e.m 5 : Nat), .int .i64 e.st, .int .i64 e.ag, .int .i64 e.tr, .int .i64 e.wt]
structure AK where
  k : KV
  m : Nat → Nat
  ty : Int
def akC (e : AK) : Array Value := #[.int .i64 e.k.pt, .int .i64 e.k.V, .int .u8 (e.k.x 0 : Nat), .int .u8 (e.k.x 1 : Nat), .int .u8 (e.k.x 2 : Nat), .int .u8 (e.k.x 3 : Nat), .int .u8 (e.k.x 4 : Nat), .int .u8 (e.k.x 5 : Nat), .int .u8 (e.k.x 6 : Nat), .int .u8 (e.k.x 7 : Nat), .int .u8 (e.k.x 8 : Nat), .int .u8 (e.k.x 9 : Nat), .int .u8 (e.k.x 10 : Nat), .int .u8 (e.k.x 11 : Nat), .int .u8 (e.k.x 12 : Nat), .int .u8 (e.k.x 13 : Nat), .int .u8 (e.k.x 14 : Nat), .int .u8 (e.k.x 15 : Nat), .int .u8 (e.m 0 : Nat), .int .u8 (e.m 1 : Nat), .int .u8 (e.m 2 : Nat), .int .u8 (e.m 3 : Nat), .int .u8 (e.m 4 : Nat), .int .u8 (e.m 5 : Nat), .int .i64 e.ty]
def mz : Nat → Nat := fun _ => 0
def kz : KV := ⟨0, 0, fun _ => 0⟩
def nz : NB := ⟨kz, fun _ => 0, 0, 0, 0, 0⟩
def az : AK := ⟨kz, fun _ => 0, 0⟩
def cz : CF := ⟨0, 0, 0, 0, 0⟩
theorem Try.size_ipr : (Try.prog.info? 31).map (·.size) = some 17 := by kernel_rfl
def IprAt (w : World) (O : Nat) (V : Int) (f : Nat → Nat) : Prop := w.heap[O]? = some (.cells (ipCells V f) 31 (0, 0))
section
variable {w : World} {O : Nat} {V : Int} {f : Nat → Nat} (k : IprAt w O V f)
include k
theorem IprAt.lt : O < w.heap.size := (Array.getElem?_eq_some_iff.1 k).1
theorem IprAt.ch {S : Nat → Prop} {w' : World} (c : Ch S w w') (hS : ¬ S O) : IprAt w' O V f := (c.block O k.lt hS).trans k
theorem IprAt.below {w' : World} (c : Below w.heap.size w w') : IprAt w' O V f := (c.block O k.lt).trans k
theorem IprAt.cell (i : Nat) : w.cell? ⟨O, i, none⟩ = (ipCells V f)[i]? := by unfold IprAt at k; simp [World.cell?, k]
theorem IprAt.fz (j : Nat) : w.frozen? ⟨O, j, none⟩ = false := by unfold IprAt at k; simp [World.frozen?, k]
theorem IprAt.range (o n : Nat) : w.rangeAt O o (((ipCells V f).extract o (o + n)).toList) := World.rangeAt_of_block k o n
end
theorem ipr_new (w : World) (V : Int) (f : Nat → Nat) : IprAt (w.alloc (.cells (ipCells V f) 31)) w.heap.size V f := heap_alloc_new _ _
theorem wpList_load_ipr {ops : Array Oper} {rest : List Oper} {o : Oper} {a : Act} {w : World} {Q : Exit → Act → World → Prop} (x : Operand) (ho : o.op = .load 31 x) (O : Nat) (V : Int) (f : Nat → Nat) (hx : a.eval x = .pointer (some ⟨O, 0, none⟩)) (hb : IprAt w O V f)
    (hw : Region.wanted o (yielded ops a.tmps) = true) (hh : wpList Try.prog ops Q rest (a.put o.dst (.agg (ipCells V f))) w) : wpList Try.prog ops Q (o :: rest) a w := by
  refine wpList_step fun K hK => ?_
  rw [if_pos hw]
  exact wp_load_row 31 x ho O hx _ _ _ _ hb Try.underlying31 rfl Try.size_ipr (hK _ _ hh)
theorem wpList_store_ipr {ops : Array Oper} {rest : List Oper} {o : Oper} {a : Act} {w : World} {Q : Exit → Act → World → Prop} (x y : Operand) (ho : o.op = .store 31 x y) (hd : o.dst = none) (O : Nat) (V : Int) (f : Nat → Nat) (V' : Int) (f' : Nat → Nat) (hx : a.eval x = .pointer (some ⟨O, 0, none⟩)) (hy : a.eval y = .agg (ipCells V' f')) (hb : IprAt w O V f)
    (hw : Region.wanted o (yielded ops a.tmps) = true) (hh : ∀ w', IprAt w' O V' f' → Ch (fun q => q = O) w w' → wpList Try.prog ops Q rest a w') : wpList Try.prog ops Q (o :: rest) a w := by
  refine wpList_step fun K hK => ?_
  rw [if_pos hw]
  refine wp_store_row 31 x y ho O (ipCells V' f') hx hy _ (ipCells V f) hb Try.size_ipr rfl (by simp [ipCells, Value.oneCell']) (hK _ _ ?_)
  rw [hd]
  refine hh _ (setRow_heap w O _ _ _ _ hb) ⟨rfl, rfl, rfl, ?_, ?_⟩
  · simp [World.setRow]
  · intro k hk hne
    simp only [World.setRow]
    rw [Array.getElem?_modify, if_neg (fun e => hne e.symm)]
theorem wpList_alloc_ipr {ops : Array Oper} {rest : List Oper} {o : Oper} {a : Act} {w : World} {Q : Exit → Act → World → Prop} (ho : o.op = .alloc 31) (hw : Region.wanted o (yielded ops a.tmps) = true)
    (h : wpList Try.prog ops Q rest (a.put o.dst (.pointer (some ⟨w.heap.size, 0, none⟩))) (w.alloc (.cells (ipCells 0 (fun _ => 0)) 31))) : wpList Try.prog ops Q (o :: rest) a w := by
  refine wpList_step fun K hK => ?_
  rw [if_pos hw]
  have hrun : (execOp a.eval o).run Try.prog w = .ok (.value (.pointer (some ⟨w.heap.size, 0, none⟩))) (w.alloc (.cells (ipCells 0 (fun _ => 0)) 31)) := by
    obtain ⟨dst, op, type, pos, after, guard⟩ := o
    simp only at ho
    subst ho
    simp only [execOp]
    go_simp
    rfl
  unfold Oper.wp
  rw [hrun]
  exact hK _ _ h
theorem yields_ipr {ops : Array Oper} {o : Oper} {a : Act} {S : World → Prop} (x : Operand) (ho : o.op = .load 31 x) (O off : Nat) (V : Int) (f : Nat → Nat) (hx : a.eval x = .pointer (some ⟨O, off, none⟩)) (hw : Region.wanted o (yielded ops a.tmps) = true) (hS : ∀ w, S w → w.rangeAt O off (ipCells V f).toList) : YieldsIf Try.prog ops S o (.agg (ipCells V f)) a :=
  yieldsIf_load_mid hw 31 x ho O off hx (ipCells V f).toList _ hS Try.underlying31 rfl Try.size_ipr
theorem wpList_mid_ipr {ops : Array Oper} {rest : List Oper} {o : Oper} {a : Act} {w : World} {Q : Exit → Act → World → Prop} (x : Operand) (ho : o.op = .load 31 x) (O off : Nat) (V : Int) (f : Nat → Nat) (hx : a.eval x = .pointer (some ⟨O, off, none⟩)) (hb : w.rangeAt O off (ipCells V f).toList)
    (hw : Region.wanted o (yielded ops a.tmps) = true) (h : wpList Try.prog ops Q rest (a.put o.dst (.agg (ipCells V f))) w) : wpList Try.prog ops Q (o :: rest) a w := by
  refine wpList_step fun K hK => ?_
  rw [if_pos hw]
  exact wp_load_mid 31 x ho O off hx (ipCells V f).toList _ hb Try.underlying31 rfl Try.size_ipr (hK _ _ h)
theorem results_ipr {fn : Func} {p : Tmp} (h : fn.results = #[.cell p 31]) (tmps : Array Value) (w : World) (O : Nat) (V : Int) (f : Nat → Nat) (hp : tmps.getD p undef = .pointer (some ⟨O, 0, none⟩)) (hb : IprAt w O V f) :
    (results fn tmps).run Try.prog w = .ok (.agg (ipCells V f)) w :=
  results_cell_row h tmps w O _ (ipCells V f) _ _ hp hb Try.underlying31 rfl Try.size_ipr
theorem Try.size_mac : (Try.prog.info? 33).map (·.size) = some 6 := by kernel_rfl
def MacAt (w : World) (O : Nat) (mv : Nat → Nat) : Prop := w.heap[O]? = some (.cells (macC mv) 33 (0, 0))
section
variable {w : World} {O : Nat} {mv : Nat → Nat} (k : MacAt w O mv)
include k
theorem MacAt.lt : O < w.heap.size := (Array.getElem?_eq_some_iff.1 k).1
theorem MacAt.ch {S : Nat → Prop} {w' : World} (c : Ch S w w') (hS : ¬ S O) : MacAt w' O mv := (c.block O k.lt hS).trans k
theorem MacAt.below {w' : World} (c : Below w.heap.size w w') : MacAt w' O mv := (c.block O k.lt).trans k
theorem MacAt.cell (i : Nat) : w.cell? ⟨O, i, none⟩ = (macC mv)[i]? := by unfold MacAt at k; simp [World.cell?, k]
theorem MacAt.fz (j : Nat) : w.frozen? ⟨O, j, none⟩ = false := by unfold MacAt at k; simp [World.frozen?, k]
theorem MacAt.range (o n : Nat) : w.rangeAt O o (((macC mv).extract o (o + n)).toList) := World.rangeAt_of_block k o n
end
theorem mac_new (w : World) (mv : Nat → Nat) : MacAt (w.alloc (.cells (macC mv) 33)) w.heap.size mv := heap_alloc_new _ _
theorem wpList_load_mac {ops : Array Oper} {rest : List Oper} {o : Oper} {a : Act} {w : World} {Q : Exit → Act → World → Prop} (x : Operand) (ho : o.op = .load 33 x) (O : Nat) (mv : Nat → Nat) (hx : a.eval x = .pointer (some ⟨O, 0, none⟩)) (hb : MacAt w O mv)
    (hw : Region.wanted o (yielded ops a.tmps) = true) (hh : wpList Try.prog ops Q rest (a.put o.dst (.agg (macC mv))) w) : wpList Try.prog ops Q (o :: rest) a w := by
  refine wpList_step fun K hK => ?_
  rw [if_pos hw]
  exact wp_load_row 33 x ho O hx _ _ _ _ hb Try.underlying33 rfl Try.size_mac (hK _ _ hh)
theorem wpList_store_mac {ops : Array Oper} {rest : List Oper} {o : Oper} {a : Act} {w : World} {Q : Exit → Act → World → Prop} (x y : Operand) (ho : o.op = .store 33 x y) (hd : o.dst = none) (O : Nat) (mv : Nat → Nat) (mv' : Nat → Nat) (hx : a.eval x = .pointer (some ⟨O, 0, none⟩)) (hy : a.eval y = .agg (macC mv')) (hb : MacAt w O mv)
    (hw : Region.wanted o (yielded ops a.tmps) = true) (hh : ∀ w', MacAt w' O mv' → Ch (fun q => q = O) w w' → wpList Try.prog ops Q rest a w') : wpList Try.prog ops Q (o :: rest) a w := by
  refine wpList_step fun K hK => ?_
  rw [if_pos hw]
  refine wp_store_row 33 x y ho O (macC mv') hx hy _ (macC mv) hb Try.size_mac rfl (by simp [macC, Value.oneCell']) (hK _ _ ?_)
  rw [hd]
  refine hh _ (setRow_heap w O _ _ _ _ hb) ⟨rfl, rfl, rfl, ?_, ?_⟩
  · simp [World.setRow]
  · intro k hk hne
    simp only [World.setRow]
    rw [Array.getElem?_modify, if_neg (fun e => hne e.symm)]
theorem wpList_alloc_mac {ops : Array Oper} {rest : List Oper} {o : Oper} {a : Act} {w : World} {Q : Exit → Act → World → Prop} (ho : o.op = .alloc 33) (hw : Region.wanted o (yielded ops a.tmps) = true)
    (h : wpList Try.prog ops Q rest (a.put o.dst (.pointer (some ⟨w.heap.size, 0, none⟩))) (w.alloc (.cells (macC mz) 33))) : wpList Try.prog ops Q (o :: rest) a w := by
  refine wpList_step fun K hK => ?_
  rw [if_pos hw]
  have hrun : (execOp a.eval o).run Try.prog w = .ok (.value (.pointer (some ⟨w.heap.size, 0, none⟩))) (w.alloc (.cells (macC mz) 33)) := by
    obtain ⟨dst, op, type, pos, after, guard⟩ := o
    simp only at ho
    subst ho
    simp only [execOp]
    go_simp
    rfl
  unfold Oper.wp
  rw [hrun]
  exact hK _ _ h
theorem yields_mac {ops : Array Oper} {o : Oper} {a : Act} {S : World → Prop} (x : Operand) (ho : o.op = .load 33 x) (O off : Nat) (mv : Nat → Nat) (hx : a.eval x = .pointer (some ⟨O, off, none⟩)) (hw : Region.wanted o (yielded ops a.tmps) = true) (hS : ∀ w, S w → w.rangeAt O off (macC mv).toList) : YieldsIf Try.prog ops S o (.agg (macC mv)) a :=
  yieldsIf_load_mid hw 33 x ho O off hx (macC mv).toList _ hS Try.underlying33 rfl Try.size_mac
theorem wpList_mid_mac {ops : Array Oper} {rest : List Oper} {o : Oper} {a : Act} {w : World} {Q : Exit → Act → World → Prop} (x : Operand) (ho : o.op = .load 33 x) (O off : Nat) (mv : Nat → Nat) (hx : a.eval x = .pointer (some ⟨O, off, none⟩)) (hb : w.rangeAt O off (macC mv).toList)
    (hw : Region.wanted o (yielded ops a.tmps) = true) (h : wpList Try.prog ops Q rest (a.put o.dst (.agg (macC mv))) w) : wpList Try.prog ops Q (o :: rest) a w := by
  refine wpList_step fun K hK => ?_
  rw [if_pos hw]
  exact wp_load_mid 33 x ho O off hx (macC mv).toList _ hb Try.underlying33 rfl Try.size_mac (hK _ _ h)
theorem results_mac {fn : Func} {p : Tmp} (h : fn.results = #[.cell p 33]) (tmps : Array Value) (w : World) (O : Nat) (mv : Nat → Nat) (hp : tmps.getD p undef = .pointer (some ⟨O, 0, none⟩)) (hb : MacAt w O mv) :
    (results fn tmps).run Try.prog w = .ok (.agg (macC mv)) w :=
  results_cell_row h tmps w O _ (macC mv) _ _ hp hb Try.underlying33 rfl Try.size_mac
theorem Try.size_key : (Try.prog.info? 98).map (·.size) = some 18 := by kernel_rfl
def KeyAt (w : World) (O : Nat) (kv : KV) : Prop := w.heap[O]? = some (.cells (kC kv) 98 (0, 0))
section
variable {w : World} {O : Nat} {kv : KV} (k : KeyAt w O kv)
include k
theorem KeyAt.lt : O < w.heap.size := (Array.getElem?_eq_some_iff.1 k).1
theorem KeyAt.ch {S : Nat → Prop} {w' : World} (c : Ch S w w') (hS : ¬ S O) : KeyAt w' O kv := (c.block O k.lt hS).trans k
theorem KeyAt.below {w' : World} (c : Below w.heap.size w w') : KeyAt w' O kv := (c.block O k.lt).trans k
theorem KeyAt.cell (i : Nat) : w.cell? ⟨O, i, none⟩ = (kC kv)[i]? := by unfold KeyAt at k; simp [World.cell?, k]
theorem KeyAt.fz (j : Nat) : w.frozen? ⟨O, j, none⟩ = false := by unfold KeyAt at k; simp [World.frozen?, k]
theorem KeyAt.range (o n : Nat) : w.rangeAt O o (((kC kv).extract o (o + n)).toList) := World.rangeAt_of_block k o n
end
theorem key_new (w : World) (kv : KV) : KeyAt (w.alloc (.cells (kC kv) 98)) w.heap.size kv := heap_alloc_new _ _
theorem wpList_load_key {ops : Array Oper} {rest : List Oper} {o : Oper} {a : Act} {w : World} {Q : Exit → Act → World → Prop} (x : Operand) (ho : o.op = .load 98 x) (O : Nat) (kv : KV) (hx : a.eval x = .pointer (some ⟨O, 0, none⟩)) (hb : KeyAt w O kv)
    (hw : Region.wanted o (yielded ops a.tmps) = true) (hh : wpList Try.prog ops Q rest (a.put o.dst (.agg (kC kv))) w) : wpList Try.prog ops Q (o :: rest) a w := by
  refine wpList_step fun K hK => ?_
  rw [if_pos hw]
  exact wp_load_row 98 x ho O hx _ _ _ _ hb Try.underlying98 rfl Try.size_key (hK _ _ hh)
theorem wpList_store_key {ops : Array Oper} {rest : List Oper} {o : Oper} {a : Act} {w : World} {Q : Exit → Act → World → Prop} (x y : Operand) (ho : o.op = .store 98 x y) (hd : o.dst = none) (O : Nat) (kv : KV) (kv' : KV) (hx : a.eval x = .pointer (some ⟨O, 0, none⟩)) (hy : a.eval y = .agg (kC kv')) (hb : KeyAt w O kv)
    (hw : Region.wanted o (yielded ops a.tmps) = true) (hh : ∀ w', KeyAt w' O kv' → Ch (fun q => q = O) w w' → wpList Try.prog ops Q rest a w') : wpList Try.prog ops Q (o :: rest) a w := by
  refine wpList_step fun K hK => ?_
  rw [if_pos hw]
  refine wp_store_row 98 x y ho O (kC kv') hx hy _ (kC kv) hb Try.size_key rfl (by simp [kC, Value.oneCell']) (hK _ _ ?_)
  rw [hd]
  refine hh _ (setRow_heap w O _ _ _ _ hb) ⟨rfl, rfl, rfl, ?_, ?_⟩
  · simp [World.setRow]
  · intro k hk hne
    simp only [World.setRow]
    rw [Array.getElem?_modify, if_neg (fun e => hne e.symm)]
theorem wpList_alloc_key {ops : Array Oper} {rest : List Oper} {o : Oper} {a : Act} {w : World} {Q : Exit → Act → World → Prop} (ho : o.op = .alloc 98) (hw : Region.wanted o (yielded ops a.tmps) = true)
    (h : wpList Try.prog ops Q rest (a.put o.dst (.pointer (some ⟨w.heap.size, 0, none⟩))) (w.alloc (.cells (kC kz) 98))) : wpList Try.prog ops Q (o :: rest) a w := by
  refine wpList_step fun K hK => ?_
  rw [if_pos hw]
  have hrun : (execOp a.eval o).run Try.prog w = .ok (.value (.pointer (some ⟨w.heap.size, 0, none⟩))) (w.alloc (.cells (kC kz) 98)) := by
    obtain ⟨dst, op, type, pos, after, guard⟩ := o
    simp only at ho
    subst ho
    simp only [execOp]
    go_simp
    rfl
  unfold Oper.wp
  rw [hrun]
  exact hK _ _ h
theorem yields_key {ops : Array Oper} {o : Oper} {a : Act} {S : World → Prop} (x : Operand) (ho : o.op = .load 98 x) (O off : Nat) (kv : KV) (hx : a.eval x = .pointer (some ⟨O, off, none⟩)) (hw : Region.wanted o (yielded ops a.tmps) = true) (hS : ∀ w, S w → w.rangeAt O off (kC kv).toList) : YieldsIf Try.prog ops S o (.agg (kC kv)) a :=
  yieldsIf_load_mid hw 98 x ho O off hx (kC kv).toList _ hS Try.underlying98 rfl Try.size_key
theorem wpList_mid_key {ops : Array Oper} {rest : List Oper} {o : Oper} {a : Act} {w : World} {Q : Exit → Act → World → Prop} (x : Operand) (ho : o.op = .load 98 x) (O off : Nat) (kv : KV) (hx : a.eval x = .pointer (some ⟨O, off, none⟩)) (hb : w.rangeAt O off (kC kv).toList)
    (hw : Region.wanted o (yielded ops a.tmps) = true) (h : wpList Try.prog ops Q rest (a.put o.dst (.agg (kC kv))) w) : wpList Try.prog ops Q (o :: rest) a w := by
  refine wpList_step fun K hK => ?_
  rw [if_pos hw]
  exact wp_load_mid 98 x ho O off hx (kC kv).toList _ hb Try.underlying98 rfl Try.size_key (hK _ _ h)
theorem results_key {fn : Func} {p : Tmp} (h : fn.results = #[.cell p 98]) (tmps : Array Value) (w : World) (O : Nat) (kv : KV) (hp : tmps.getD p undef = .pointer (some ⟨O, 0, none⟩)) (hb : KeyAt w O kv) :
    (results fn tmps).run Try.prog w = .ok (.agg (kC kv)) w :=
  results_cell_row h tmps w O _ (kC kv) _ _ hp hb Try.underlying98 rfl Try.size_key
theorem Try.size_nbr : (Try.prog.info? 48).map (·.size) = some 28 := by kernel_rfl
def NbrAt (w : World) (O : Nat) (nv : NB) : Prop := w.heap[O]? = some (.cells (nbC nv) 48 (0, 0))
section
variable {w : World} {O : Nat} {nv : NB} (k : NbrAt w O nv)
include k
theorem NbrAt.lt : O < w.heap.size := (Array.getElem?_eq_some_iff.1 k).1
theorem NbrAt.ch {S : Nat → Prop} {w' : World} (c : Ch S w w') (hS : ¬ S O) : NbrAt w' O nv := (c.block O k.lt hS).trans k
theorem NbrAt.below {w' : World} (c : Below w.heap.size w w') : NbrAt w' O nv := (c.block O k.lt).trans k
theorem NbrAt.cell (i : Nat) : w.cell? ⟨O, i, none⟩ = (nbC nv)[i]? := by unfold NbrAt at k; simp [World.cell?, k]
theorem NbrAt.fz (j : Nat) : w.frozen? ⟨O, j, none⟩ = false := by unfold NbrAt at k; simp [World.frozen?, k]
theorem NbrAt.range (o n : Nat) : w.rangeAt O o (((nbC nv).extract o (o + n)).toList) := World.rangeAt_of_block k o n
end
theorem nbr_new (w : World) (nv : NB) : NbrAt (w.alloc (.cells (nbC nv) 48)) w.heap.size nv := heap_alloc_new _ _
theorem wpList_load_nbr {ops : Array Oper} {rest : List Oper} {o : Oper} {a : Act} {w : World} {Q : Exit → Act → World → Prop} (x : Operand) (ho : o.op = .load 48 x) (O : Nat) (nv : NB) (hx : a.eval x = .pointer (some ⟨O, 0, none⟩)) (hb : NbrAt w O nv)
    (hw : Region.wanted o (yielded ops a.tmps) = true) (hh : wpList Try.prog ops Q rest (a.put o.dst (.agg (nbC nv))) w) : wpList Try.prog ops Q (o :: rest) a w := by
  refine wpList_step fun K hK => ?_
  rw [if_pos hw]
  exact wp_load_row 48 x ho O hx _ _ _ _ hb Try.underlying48 rfl Try.size_nbr (hK _ _ hh)
theorem wpList_store_nbr {ops : Array Oper} {rest : List Oper} {o : Oper} {a : Act} {w : World} {Q : Exit → Act → World → Prop} (x y : Operand) (ho : o.op = .store 48 x y) (hd : o.dst = none) (O : Nat) (nv : NB) (nv' : NB) (hx : a.eval x = .pointer (some ⟨O, 0, none⟩)) (hy : a.eval y = .agg (nbC nv')) (hb : NbrAt w O nv)
    (hw : Region.wanted o (yielded ops a.tmps) = true) (hh : ∀ w', NbrAt w' O nv' → Ch (fun q => q = O) w w' → wpList Try.prog ops Q rest a w') : wpList Try.prog ops Q (o :: rest) a w := by
  refine wpList_step fun K hK => ?_
  rw [if_pos hw]
  refine wp_store_row 48 x y ho O (nbC nv') hx hy _ (nbC nv) hb Try.size_nbr rfl (by simp [nbC, Value.oneCell']) (hK _ _ ?_)
  rw [hd]
  refine hh _ (setRow_heap w O _ _ _ _ hb) ⟨rfl, rfl, rfl, ?_, ?_⟩
  · simp [World.setRow]
  · intro k hk hne
    simp only [World.setRow]
    rw [Array.getElem?_modify, if_neg (fun e => hne e.symm)]
theorem wpList_alloc_nbr {ops : Array Oper} {rest : List Oper} {o : Oper} {a : Act} {w : World} {Q : Exit → Act → World → Prop} (ho : o.op = .alloc 48) (hw : Region.wanted o (yielded ops a.tmps) = true)
    (h : wpList Try.prog ops Q rest (a.put o.dst (.pointer (some ⟨w.heap.size, 0, none⟩))) (w.alloc (.cells (nbC nz) 48))) : wpList Try.prog ops Q (o :: rest) a w := by
  refine wpList_step fun K hK => ?_
  rw [if_pos hw]
  have hrun : (execOp a.eval o).run Try.prog w = .ok (.value (.pointer (some ⟨w.heap.size, 0, none⟩))) (w.alloc (.cells (nbC nz) 48)) := by
    obtain ⟨dst, op, type, pos, after, guard⟩ := o
    simp only at ho
    subst ho
    simp only [execOp]
    go_simp
    rfl
  unfold Oper.wp
  rw [hrun]
  exact hK _ _ h
theorem yields_nbr {ops : Array Oper} {o : Oper} {a : Act} {S : World → Prop} (x : Operand) (ho : o.op = .load 48 x) (O off : Nat) (nv : NB) (hx : a.eval x = .pointer (some ⟨O, off, none⟩)) (hw : Region.wanted o (yielded ops a.tmps) = true) (hS : ∀ w, S w → w.rangeAt O off (nbC nv).toList) : YieldsIf Try.prog ops S o (.agg (nbC nv)) a :=
  yieldsIf_load_mid hw 48 x ho O off hx (nbC nv).toList _ hS Try.underlying48 rfl Try.size_nbr
theorem wpList_mid_nbr {ops : Array Oper} {rest : List Oper} {o : Oper} {a : Act} {w : World} {Q : Exit → Act → World → Prop} (x : Operand) (ho : o.op = .load 48 x) (O off : Nat) (nv : NB) (hx : a.eval x = .pointer (some ⟨O, off, none⟩)) (hb : w.rangeAt O off (nbC nv).toList)
    (hw : Region.wanted o (yielded ops a.tmps) = true) (h : wpList Try.prog ops Q rest (a.put o.dst (.agg (nbC nv))) w) : wpList Try.prog ops Q (o :: rest) a w := by
  refine wpList_step fun K hK => ?_
  rw [if_pos hw]
  exact wp_load_mid 48 x ho O off hx (nbC nv).toList _ hb Try.underlying48 rfl Try.size_nbr (hK _ _ h)
theorem results_nbr {fn : Func} {p : Tmp} (h : fn.results = #[.cell p 48]) (tmps : Array Value) (w : World) (O : Nat) (nv : NB) (hp : tmps.getD p undef = .pointer (some ⟨O, 0, none⟩)) (hb : NbrAt w O nv) :
    (results fn tmps).run Try.prog w = .ok (.agg (nbC nv)) w :=
  results_cell_row h tmps w O _ (nbC nv) _ _ hp hb Try.underlying48 rfl Try.size_nbr
theorem Try.size_ask : (Try.prog.info? 114).map (·.size) = some 25 := by kernel_rfl
def AskAt (w : World) (O : Nat) (av : AK) : Prop := w.heap[O]? = some (.cells (akC av) 114 (0, 0))
section
variable {w : World} {O : Nat} {av : AK} (k : AskAt w O av)
include k
theorem AskAt.lt : O < w.heap.size := (Array.getElem?_eq_some_iff.1 k).1
theorem AskAt.ch {S : Nat → Prop} {w' : World} (c : Ch S w w') (hS : ¬ S O) : AskAt w' O av := (c.block O k.lt hS).trans k
theorem AskAt.below {w' : World} (c : Below w.heap.size w w') : AskAt w' O av := (c.block O k.lt).trans k
theorem AskAt.cell (i : Nat) : w.cell? ⟨O, i, none⟩ = (akC av)[i]? := by unfold AskAt at k; simp [World.cell?, k]
theorem AskAt.fz (j : Nat) : w.frozen? ⟨O, j, none⟩ = false := by unfold AskAt at k; simp [World.frozen?, k]
theorem AskAt.range (o n : Nat) : w.rangeAt O o (((akC av).extract o (o + n)).toList) := World.rangeAt_of_block k o n
end
theorem ask_new (w : World) (av : AK) : AskAt (w.alloc (.cells (akC av) 114)) w.heap.size av := heap_alloc_new _ _
theorem wpList_load_ask {ops : Array Oper} {rest : List Oper} {o : Oper} {a : Act} {w : World} {Q : Exit → Act → World → Prop} (x : Operand) (ho : o.op = .load 114 x) (O : Nat) (av : AK) (hx : a.eval x = .pointer (some ⟨O, 0, none⟩)) (hb : AskAt w O av)
    (hw : Region.wanted o (yielded ops a.tmps) = true) (hh : wpList Try.prog ops Q rest (a.put o.dst (.agg (akC av))) w) : wpList Try.prog ops Q (o :: rest) a w := by
  refine wpList_step fun K hK => ?_
  rw [if_pos hw]
  exact wp_load_row 114 x ho O hx _ _ _ _ hb Try.underlying114 rfl Try.size_ask (hK _ _ hh)
theorem wpList_store_ask {ops : Array Oper} {rest : List Oper} {o : Oper} {a : Act} {w : World} {Q : Exit → Act → World → Prop} (x y : Operand) (ho : o.op = .store 114 x y) (hd : o.dst = none) (O : Nat) (av : AK) (av' : AK) (hx : a.eval x = .pointer (some ⟨O, 0, none⟩)) (hy : a.eval y = .agg (akC av')) (hb : AskAt w O av)
    (hw : Region.wanted o (yielded ops a.tmps) = true) (hh : ∀ w', AskAt w' O av' → Ch (fun q => q = O) w w' → wpList Try.prog ops Q rest a w') : wpList Try.prog ops Q (o :: rest) a w := by
  refine wpList_step fun K hK => ?_
  rw [if_pos hw]
  refine wp_store_row 114 x y ho O (akC av') hx hy _ (akC av) hb Try.size_ask rfl (by simp [akC, Value.oneCell']) (hK _ _ ?_)
  rw [hd]
  refine hh _ (setRow_heap w O _ _ _ _ hb) ⟨rfl, rfl, rfl, ?_, ?_⟩
  · simp [World.setRow]
  · intro k hk hne
    simp only [World.setRow]
    rw [Array.getElem?_modify, if_neg (fun e => hne e.symm)]
theorem wpList_alloc_ask {ops : Array Oper} {rest : List Oper} {o : Oper} {a : Act} {w : World} {Q : Exit → Act → World → Prop} (ho : o.op = .alloc 114) (hw : Region.wanted o (yielded ops a.tmps) = true)
    (h : wpList Try.prog ops Q rest (a.put o.dst (.pointer (some ⟨w.heap.size, 0, none⟩))) (w.alloc (.cells (akC az) 114))) : wpList Try.prog ops Q (o :: rest) a w := by
  refine wpList_step fun K hK => ?_
  rw [if_pos hw]
  have hrun : (execOp a.eval o).run Try.prog w = .ok (.value (.pointer (some ⟨w.heap.size, 0, none⟩))) (w.alloc (.cells (akC az) 114)) := by
    obtain ⟨dst, op, type, pos, after, guard⟩ := o
    simp only at ho
    subst ho
    simp only [execOp]
    go_simp
    rfl
  unfold Oper.wp
  rw [hrun]
  exact hK _ _ h
theorem yields_ask {ops : Array Oper} {o : Oper} {a : Act} {S : World → Prop} (x : Operand) (ho : o.op = .load 114 x) (O off : Nat) (av : AK) (hx : a.eval x = .pointer (some ⟨O, off, none⟩)) (hw : Region.wanted o (yielded ops a.tmps) = true) (hS : ∀ w, S w → w.rangeAt O off (akC av).toList) : YieldsIf Try.prog ops S o (.agg (akC av)) a :=
  yieldsIf_load_mid hw 114 x ho O off hx (akC av).toList _ hS Try.underlying114 rfl Try.size_ask
theorem wpList_mid_ask {ops : Array Oper} {rest : List Oper} {o : Oper} {a : Act} {w : World} {Q : Exit → Act → World → Prop} (x : Operand) (ho : o.op = .load 114 x) (O off : Nat) (av : AK) (hx : a.eval x = .pointer (some ⟨O, off, none⟩)) (hb : w.rangeAt O off (akC av).toList)
    (hw : Region.wanted o (yielded ops a.tmps) = true) (h : wpList Try.prog ops Q rest (a.put o.dst (.agg (akC av))) w) : wpList Try.prog ops Q (o :: rest) a w := by
  refine wpList_step fun K hK => ?_
  rw [if_pos hw]
  exact wp_load_mid 114 x ho O off hx (akC av).toList _ hb Try.underlying114 rfl Try.size_ask (hK _ _ h)
theorem results_ask {fn : Func} {p : Tmp} (h : fn.results = #[.cell p 114]) (tmps : Array Value) (w : World) (O : Nat) (av : AK) (hp : tmps.getD p undef = .pointer (some ⟨O, 0, none⟩)) (hb : AskAt w O av) :
    (results fn tmps).run Try.prog w = .ok (.agg (akC av)) w :=
  results_cell_row h tmps w O _ (akC av) _ _ hp hb Try.underlying114 rfl Try.size_ask
theorem Try.size_cfg : (Try.prog.info? 23).map (·.size) = some 5 := by kernel_rfl
def CfgAt (w : World) (O : Nat) (cv : CF) : Prop := w.heap[O]? = some (.cells (cfC cv) 23 (0, 0))
section
variable {w : World} {O : Nat} {cv : CF} (k : CfgAt w O cv)
include k
theorem CfgAt.lt : O < w.heap.size := (Array.getElem?_eq_some_iff.1 k).1
theorem CfgAt.ch {S : Nat → Prop} {w' : World} (c : Ch S w w') (hS : ¬ S O) : CfgAt w' O cv := (c.block O k.lt hS).trans k
theorem CfgAt.below {w' : World} (c : Below w.heap.size w w') : CfgAt w' O cv := (c.block O k.lt).trans k
theorem CfgAt.cell (i : Nat) : w.cell? ⟨O, i, none⟩ = (cfC cv)[i]? := by unfold CfgAt at k; simp [World.cell?, k]
theorem CfgAt.fz (j : Nat) : w.frozen? ⟨O, j, none⟩ = false := by unfold CfgAt at k; simp [World.frozen?, k]
theorem CfgAt.range (o n : Nat) : w.rangeAt O o (((cfC cv).extract o (o + n)).toList) := World.rangeAt_of_block k o n
end
theorem cfg_new (w : World) (cv : CF) : CfgAt (w.alloc (.cells (cfC cv) 23)) w.heap.size cv := heap_alloc_new _ _
theorem wpList_load_cfg {ops : Array Oper} {rest : List Oper} {o : Oper} {a : Act} {w : World} {Q : Exit → Act → World → Prop} (x : Operand) (ho : o.op = .load 23 x) (O : Nat) (cv : CF) (hx : a.eval x = .pointer (some ⟨O, 0, none⟩)) (hb : CfgAt w O cv)
    (hw : Region.wanted o (yielded ops a.tmps) = true) (hh : wpList Try.prog ops Q rest (a.put o.dst (.agg (cfC cv))) w) : wpList Try.prog ops Q (o :: rest) a w := by
  refine wpList_step fun K hK => ?_
  rw [if_pos hw]
  exact wp_load_row 23 x ho O hx _ _ _ _ hb Try.underlying23 rfl Try.size_cfg (hK _ _ hh)
theorem wpList_store_cfg {ops : Array Oper} {rest : List Oper} {o : Oper} {a : Act} {w : World} {Q : Exit → Act → World → Prop} (x y : Operand) (ho : o.op = .store 23 x y) (hd : o.dst = none) (O : Nat) (cv : CF) (cv' : CF) (hx : a.eval x = .pointer (some ⟨O, 0, none⟩)) (hy : a.eval y = .agg (cfC cv')) (hb : CfgAt w O cv)
    (hw : Region.wanted o (yielded ops a.tmps) = true) (hh : ∀ w', CfgAt w' O cv' → Ch (fun q => q = O) w w' → wpList Try.prog ops Q rest a w') : wpList Try.prog ops Q (o :: rest) a w := by
  refine wpList_step fun K hK => ?_
  rw [if_pos hw]
  refine wp_store_row 23 x y ho O (cfC cv') hx hy _ (cfC cv) hb Try.size_cfg rfl (by simp [cfC, Value.oneCell']) (hK _ _ ?_)
  rw [hd]
  refine hh _ (setRow_heap w O _ _ _ _ hb) ⟨rfl, rfl, rfl, ?_, ?_⟩
  · simp [World.setRow]
  · intro k hk hne
    simp only [World.setRow]
    rw [Array.getElem?_modify, if_neg (fun e => hne e.symm)]
theorem wpList_alloc_cfg {ops : Array Oper} {rest : List Oper} {o : Oper} {a : Act} {w : World} {Q : Exit → Act → World → Prop} (ho : o.op = .alloc 23) (hw : Region.wanted o (yielded ops a.tmps) = true)
    (h : wpList Try.prog ops Q rest (a.put o.dst (.pointer (some ⟨w.heap.size, 0, none⟩))) (w.alloc (.cells (cfC cz) 23))) : wpList Try.prog ops Q (o :: rest) a w := by
  refine wpList_step fun K hK => ?_
  rw [if_pos hw]
  have hrun : (execOp a.eval o).run Try.prog w = .ok (.value (.pointer (some ⟨w.heap.size, 0, none⟩))) (w.alloc (.cells (cfC cz) 23)) := by
    obtain ⟨dst, op, type, pos, after, guard⟩ := o
    simp only at ho
    subst ho
    simp only [execOp]
    go_simp
    rfl
  unfold Oper.wp
  rw [hrun]
  exact hK _ _ h
theorem yields_cfg {ops : Array Oper} {o : Oper} {a : Act} {S : World → Prop} (x : Operand) (ho : o.op = .load 23 x) (O off : Nat) (cv : CF) (hx : a.eval x = .pointer (some ⟨O, off, none⟩)) (hw : Region.wanted o (yielded ops a.tmps) = true) (hS : ∀ w, S w → w.rangeAt O off (cfC cv).toList) : YieldsIf Try.prog ops S o (.agg (cfC cv)) a :=
  yieldsIf_load_mid hw 23 x ho O off hx (cfC cv).toList _ hS Try.underlying23 rfl Try.size_cfg
theorem wpList_mid_cfg {ops : Array Oper} {rest : List Oper} {o : Oper} {a : Act} {w : World} {Q : Exit → Act → World → Prop} (x : Operand) (ho : o.op = .load 23 x) (O off : Nat) (cv : CF) (hx : a.eval x = .pointer (some ⟨O, off, none⟩)) (hb : w.rangeAt O off (cfC cv).toList)
    (hw : Region.wanted o (yielded ops a.tmps) = true) (h : wpList Try.prog ops Q rest (a.put o.dst (.agg (cfC cv))) w) : wpList Try.prog ops Q (o :: rest) a w := by
  refine wpList_step fun K hK => ?_
  rw [if_pos hw]
  exact wp_load_mid 23 x ho O off hx (cfC cv).toList _ hb Try.underlying23 rfl Try.size_cfg (hK _ _ h)
theorem results_cfg {fn : Func} {p : Tmp} (h : fn.results = #[.cell p 23]) (tmps : Array Value) (w : World) (O : Nat) (cv : CF) (hp : tmps.getD p undef = .pointer (some ⟨O, 0, none⟩)) (hb : CfgAt w O cv) :
    (results fn tmps).run Try.prog w = .ok (.agg (cfC cv)) w :=
  results_cell_row h tmps w O _ (cfC cv) _ _ hp hb Try.underlying23 rfl Try.size_cfg

theorem IprAt.boxed {w : World} {O : Nat} {V : Int} {x : Nat → Nat} (h : IprAt w O V x) : Boxed w O V x := by
  refine ⟨h.cell 0, fun i hi => ?_⟩
  rw [h.cell, ipCells_eq]
  simp [Nat.add_comm 1 i, hi]
theorem lt20' {j : Nat} (h : j < 20) : j = 0 ∨ j = 1 ∨ j = 2 ∨ j = 3 ∨ j = 4 ∨ j = 5 ∨ j = 6 ∨ j = 7 ∨ j = 8 ∨ j = 9 ∨ j = 10 ∨ j = 11 ∨ j = 12 ∨ j = 13 ∨ j = 14 ∨ j = 15 ∨ j = 16 ∨ j = 17 ∨ j = 18 ∨ j = 19 := by omega
theorem KeyAt.ip {w : World} {O : Nat} {p : KV} (h : KeyAt w O p) : w.rangeAt O 1 (ipCells p.V p.x).toList := by
  intro j v hj
  rw [h.cell]
  have hl : j < 17 := (List.getElem?_eq_some_iff.1 hj).1
  have := lt20' (show j < 20 by omega)
  rcases this with rfl | rfl | rfl | rfl | rfl | rfl | rfl | rfl | rfl | rfl | rfl | rfl | rfl | rfl | rfl | rfl | rfl | rfl | rfl | rfl
  all_goals first | exact hj | omega
theorem KeyAt.ar {w : World} {O : Nat} {p : KV} (h : KeyAt w O p) : w.rangeAt O 2 (arCells p.x).toList := by
  intro j v hj
  rw [h.cell]
  have hl : j < 16 := (List.getElem?_eq_some_iff.1 hj).1
  have := lt20' (show j < 20 by omega)
  rcases this with rfl | rfl | rfl | rfl | rfl | rfl | rfl | rfl | rfl | rfl | rfl | rfl | rfl | rfl | rfl | rfl | rfl | rfl | rfl | rfl
  all_goals first | exact hj | omega
theorem KeyAt.all {w : World} {O : Nat} {p : KV} (h : KeyAt w O p) : w.rangeAt O 0 (kC p).toList := by
  intro j v hj
  rw [Nat.zero_add, h.cell]
  simpa using hj
/-- an entry's block -/
def EntAt (w : World) (e : EV) : Prop := w.heap[e.P]? = some (.cells (enC e) 105 (0, 0))
section
variable {w : World} {e : EV} (k : EntAt w e)
include k
theorem EntAt.lt : e.P < w.heap.size := (Array.getElem?_eq_some_iff.1 k).1
theorem EntAt.ch {S : Nat → Prop} {w' : World} (c : Ch S w w') (hS : ¬ S e.P) : EntAt w' e := (c.block e.P k.lt hS).trans k
theorem EntAt.below {w' : World} (c : Below w.heap.size w w') : EntAt w' e := (c.block e.P k.lt).trans k
theorem EntAt.cell (i : Nat) : w.cell? ⟨e.P, i, none⟩ = (enC e)[i]? := by unfold EntAt at k; simp [World.cell?, k]
theorem EntAt.fz (j : Nat) : w.frozen? ⟨e.P, j, none⟩ = false := by unfold EntAt at k; simp [World.frozen?, k]
theorem EntAt.mac : w.rangeAt e.P 0 (macC e.n.m).toList := by
  intro j v hj
  rw [Nat.zero_add, EntAt.cell k]
  have hl : j < 6 := (List.getElem?_eq_some_iff.1 hj).1
  have : j = 0 ∨ j = 1 ∨ j = 2 ∨ j = 3 ∨ j = 4 ∨ j = 5 := by omega
  rcases this with rfl | rfl | rfl | rfl | rfl | rfl <;> exact hj
end
/-- a cache's own block -/
def CchAt (w : World) (t : Nat) (c : CF) (M : Nat) : Prop := w.heap[t]? = some (.cells (chC c M) 102 (0, 0))
section
variable {w : World} {t M : Nat} {c : CF} (k : CchAt w t c M)
include k
theorem CchAt.lt : t < w.heap.size := (Array.getElem?_eq_some_iff.1 k).1
theorem CchAt.ch {S : Nat → Prop} {w' : World} (h : Ch S w w') (hS : ¬ S t) : CchAt w' t c M := (h.block t (CchAt.lt k) hS).trans k
theorem CchAt.below {w' : World} (h : Below w.heap.size w w') : CchAt w' t c M := (h.block t (CchAt.lt k)).trans k
theorem CchAt.cell (i : Nat) : w.cell? ⟨t, i, none⟩ = (chC c M)[i]? := by unfold CchAt at k; simp [World.cell?, k]
theorem CchAt.mp : w.cell? ⟨t, 5, none⟩ = some (.map (some M)) := CchAt.cell k 5
theorem CchAt.cf : w.rangeAt t 0 (cfC c).toList := by
  intro j v hj
  rw [Nat.zero_add, CchAt.cell k]
  have hl : j < 5 := (List.getElem?_eq_some_iff.1 hj).1
  have : j = 0 ∨ j = 1 ∨ j = 2 ∨ j = 3 ∨ j = 4 := by omega
  rcases this with rfl | rfl | rfl | rfl | rfl <;> exact hj
end
theorem run_buildkey (p V : Int) (f : Nat → Nat) (w : World) : (Instr.build 98 #[(0, .int .i64 p), (1, .agg (ipCells V f))]).run Try.prog w = .ok (.agg (kC ⟨p, V, f⟩)) w := by kernel_rfl
theorem wpList_build_key {ops : Array Oper} {rest : List Oper} {o : Oper} {a : Act} {w : World} {Q : Exit → Act → World → Prop} (x y : Operand) (ho : o.op = .build 98 #[(0, x), (1, y)]) (p V : Int) (f : Nat → Nat) (hx : a.eval x = .int .i64 p) (hy : a.eval y = .agg (ipCells V f)) (hw : Region.wanted o (yielded ops a.tmps) = true)
    (h : wpList Try.prog ops Q rest (a.put o.dst (.agg (kC ⟨p, V, f⟩))) w) : wpList Try.prog ops Q (o :: rest) a w := by
  refine wpList_step fun K hK => ?_
  rw [if_pos hw]
  have hrun : (execOp a.eval o).run Try.prog w = .ok (.value (.agg (kC ⟨p, V, f⟩))) w := by
    obtain ⟨dst, op, type, pos, after, guard⟩ := o
    simp only at ho
    subst ho
    simp only [execOp, Sem.run_bind, List.map_toArray, List.map_cons, List.map_nil, hx, hy, run_buildkey p V f w, Result.andThen_ok]
    rfl
  unfold Oper.wp
  rw [hrun]
  exact hK _ _ h
theorem run_buildmac0 (w : World) : (Instr.build 33 #[]).run Try.prog w = .ok (.agg (macC mz)) w := by kernel_rfl
theorem wpList_build_mac0 {ops : Array Oper} {rest : List Oper} {o : Oper} {a : Act} {w : World} {Q : Exit → Act → World → Prop} (ho : o.op = .build 33 #[]) (hw : Region.wanted o (yielded ops a.tmps) = true)
    (h : wpList Try.prog ops Q rest (a.put o.dst (.agg (macC mz))) w) : wpList Try.prog ops Q (o :: rest) a w := by
  refine wpList_step fun K hK => ?_
  rw [if_pos hw]
  have hrun : (execOp a.eval o).run Try.prog w = .ok (.value (.agg (macC mz))) w := by
    obtain ⟨dst, op, type, pos, after, guard⟩ := o
    simp only at ho
    subst ho
    simp only [execOp, Sem.run_bind, List.map_toArray, List.map_nil, run_buildmac0 w, Result.andThen_ok]
    rfl
  unfold Oper.wp
  rw [hrun]
  exact hK _ _ h
def same6 (x y : Nat → Nat) : Bool := decide (x 0 = y 0 ∧ x 1 = y 1 ∧ x 2 = y 2 ∧ x 3 = y 3 ∧ x 4 = y 4 ∧ x 5 = y 5)
set_option maxHeartbeats 1600000 in
set_option maxRecDepth 100000 in
theorem eq6 (x y : Nat → Nat) (w : World) (d : Nat) : (Op.equalIn (d + 2) 33 (.agg (macC x)) (.agg (macC y))).run Try.prog w = .ok (same6 x y) w := by
  have u5 := Try.underlying5
  have a5 := Try.isAgg5
  have z5 := Try.sizeOf5
  rw [show (d + 2 : Nat) = (d + 1) + 1 from rfl, Op.equalIn]
  unfold macC
  simp only [Sem.run_bind, run_underlying Try.underlying33, Result.andThen_ok]
  simp only [Std.Legacy.Range.forIn_eq_forIn_range', Std.Legacy.Range.size, Nat.sub_zero, Nat.add_sub_cancel, Nat.div_one, List.range'_succ, List.range'_zero, List.forIn_cons, List.forIn_nil]
  go_simp
  unfold same6
  (repeat' split) <;> simp_all <;> omega
theorem eq6top (x y : Nat → Nat) (w : World) : (Op.equalIn 10000 33 (.agg (macC x)) (.agg (macC y))).run Try.prog w = .ok (same6 x y) w := eq6 x y w 9998
theorem Try.macGuard : Try.prog.eqGuardType Try.prog.depth 33 = false := by kernel_rfl
theorem Try.arGuard : Try.prog.eqGuardType Try.prog.depth 29 = false := by kernel_rfl
theorem eq16top (x y : Nat → Nat) (w : World) : (Op.equalIn 10000 29 (.agg (arCells x)) (.agg (arCells y))).run Try.prog w = .ok (same16 x y) w := eq16 x y w 9998
theorem wpList_neq_mac {ops : Array Oper} {rest : List Oper} {o : Oper} {a : Act} {w : World} {Q : Exit → Act → World → Prop} (X Y : Operand) (ho : o.op = .binOp .neq 33 X Y 33) (x y : Nat → Nat) (hx : a.eval X = .agg (macC x)) (hy : a.eval Y = .agg (macC y)) (b : Bool) (hb : (!same6 x y) = b)
    (hw : Region.wanted o (yielded ops a.tmps) = true) (h : wpList Try.prog ops Q rest (a.put o.dst (.bool b)) w) : wpList Try.prog ops Q (o :: rest) a w := by
  refine wpList_step fun K hK => ?_
  rw [if_pos hw]
  have hrun : (execOp a.eval o).run Try.prog w = .ok (.value (.bool b)) w := by
    subst hb
    obtain ⟨dst, op, type, pos, after, guard⟩ := o
    simp only at ho
    subst ho
    simp only [execOp, Sem.run_bind, Sem.run_pure, hx, hy, run_eqGuard_agg w .neq 33 _ _ _ _ Try.macGuard, Result.andThen_ok, run_neq_struct, eq6top]
  unfold Oper.wp
  rw [hrun]
  exact hK _ _ h
theorem wpList_eql_ar {ops : Array Oper} {rest : List Oper} {o : Oper} {a : Act} {w : World} {Q : Exit → Act → World → Prop} (X Y : Operand) (ho : o.op = .binOp .eql 29 X Y 29) (x y : Nat → Nat) (hx : a.eval X = .agg (arCells x)) (hy : a.eval Y = .agg (arCells y)) (b : Bool) (hb : same16 x y = b)
    (hw : Region.wanted o (yielded ops a.tmps) = true) (h : wpList Try.prog ops Q rest (a.put o.dst (.bool b)) w) : wpList Try.prog ops Q (o :: rest) a w := by
  refine wpList_step fun K hK => ?_
  rw [if_pos hw]
  have hrun : (execOp a.eval o).run Try.prog w = .ok (.value (.bool b)) w := by
    subst hb
    obtain ⟨dst, op, type, pos, after, guard⟩ := o
    simp only at ho
    subst ho
    simp only [execOp, Sem.run_bind, Sem.run_pure, hx, hy, run_eqGuard_agg w .eql 29 _ _ _ _ Try.arGuard, Result.andThen_ok, run_eql_struct, eq16top]
  unfold Oper.wp
  rw [hrun]
  exact hK _ _ h
end Go.Proofs.Ytnpipngiehohgaa
