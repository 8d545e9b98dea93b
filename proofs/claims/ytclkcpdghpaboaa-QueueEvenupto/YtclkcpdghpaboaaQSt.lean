/-
  Layer 18: limits, items, turns, classes and queues in memory.
-/
import Derived.Test.YtclkcpdghpaboaaQG
import Derived.Test.YtclkcpdghpaboaaQSpec
namespace Go.Proofs.Ytclkcpdghpaboaa
open Go.RowKit

def liA (l : LI) : Array Value := #[.int .i64 l.q, .int .i64 l.it, .int .i64 l.by', .int .i64 l.ra, .int .i64 l.bu]
def itA (x : Int × Int) : Array Value := #[.int .i64 x.1, .int .i64 x.2]
def tnA (t : TN) : Array Value := #[.int .i64 (t.at' : Int), .bool t.gv, .int .i64 (t.de 0), .int .i64 (t.de 1), .int .i64 (t.de 2), .int .i64 (t.de 3), .int .i64 (t.de 4), .int .i64 (t.de 5), .int .i64 (t.de 6), .int .i64 (t.de 7)]
def quA (v : Value) (t : TN) : Array Value := #[v, .int .i64 (t.at' : Int), .bool t.gv, .int .i64 (t.de 0), .int .i64 (t.de 1), .int .i64 (t.de 2), .int .i64 (t.de 3), .int .i64 (t.de 4), .int .i64 (t.de 5), .int .i64 (t.de 6), .int .i64 (t.de 7)]
/-- a class in memory: its line's slots, the head's slot, what they hold -/
structure CM where
  c : CL
  v : Value
  f : Nat
  S : List (Int × Int)
  b : Int
def cmA (m : CM) : Array Value := #[.int .i64 m.c.li.q, .int .i64 m.c.li.it, .int .i64 m.c.li.by', .int .i64 m.c.li.ra, .int .i64 m.c.li.bu, m.v, .int .i64 (m.f : Int), .int .i64 (m.c.L.length : Int), .int .i64 m.b, .int .i64 m.c.tk]
def liL (l : LI) : List Value := (liA l).toList
def itL (x : Int × Int) : List Value := (itA x).toList
def cmL (m : CM) : List Value := (cmA m).toList
theorem liL_len (l : LI) : (liL l).length = 5 := rfl
theorem itL_len (x : Int × Int) : (itL x).length = 2 := rfl
theorem cmL_len (m : CM) : (cmL m).length = 10 := rfl
theorem liL_one (l : LI) : ∀ u ∈ liL l, u.oneCell' = true := by simp [liL, liA, Value.oneCell']
theorem itL_one (x : Int × Int) : ∀ u ∈ itL x, u.oneCell' = true := by simp [itL, itA, Value.oneCell']
def tz : TN := ⟨0, false, fun _ => 0⟩
def iz : Int × Int := (0, 0)
def vz : Value := .slice none 0 0
theorem info_it : Info 119 2 := info_of (by kernel_rfl)
theorem info_li : Info 36 5 := info_of (by kernel_rfl)
theorem info_cm : Info 98 10 := info_of (by kernel_rfl)
theorem Try.size_lim : (Try.prog.info? 36).map (·.size) = some 5 := by kernel_rfl
def LimAt (w : World) (O : Nat) (lv : LI) : Prop := w.heap[O]? = some (.cells (liA lv) 36 (0, 0))
section
variable {w : World} {O : Nat} {lv : LI} (k : LimAt w O lv)
include k
theorem LimAt.lt : O < w.heap.size := (Array.getElem?_eq_some_iff.1 k).1
theorem LimAt.ch {S : Nat → Prop} {w' : World} (c : Ch S w w') (hS : ¬ S O) : LimAt w' O lv := (c.block O k.lt hS).trans k
theorem LimAt.below {w' : World} (c : Below w.heap.size w w') : LimAt w' O lv := (c.block O k.lt).trans k
theorem LimAt.cell (i : Nat) : w.cell? ⟨O, i, none⟩ = (liA lv)[i]? := by unfold LimAt at k; simp [World.cell?, k]
theorem LimAt.fz (j : Nat) : w.frozen? ⟨O, j, none⟩ = false := by unfold LimAt at k; simp [World.frozen?, k]
theorem LimAt.range (o n : Nat) : w.rangeAt O o (((liA lv).extract o (o + n)).toList) := World.rangeAt_of_block k o n
end
theorem lim_new (w : World) (lv : LI) : LimAt (w.alloc (.cells (liA lv) 36)) w.heap.size lv := heap_alloc_new _ _
theorem wpList_load_lim {ops : Array Oper} {rest : List Oper} {o : Oper} {a : Act} {w : World} {Q : Exit → Act → World → Prop} (x : Operand) (ho : o.op = .load 36 x) (O : Nat) (lv : LI) (hx : a.eval x = .pointer (some ⟨O, 0, none⟩)) (hb : LimAt w O lv)
    (hw : Region.wanted o (yielded ops a.tmps) = true) (hh : wpList Try.prog ops Q rest (a.put o.dst (.agg (liA lv))) w) : wpList Try.prog ops Q (o :: rest) a w := by
  refine wpList_step fun K hK => ?_
  rw [if_pos hw]
  exact wp_load_row 36 x ho O hx _ _ _ _ hb Try.underlying36 rfl Try.size_lim (hK _ _ hh)
theorem wpList_store_lim {ops : Array Oper} {rest : List Oper} {o : Oper} {a : Act} {w : World} {Q : Exit → Act → World → Prop} (x y : Operand) (ho : o.op = .store 36 x y) (hd : o.dst = none) (O : Nat) (lv : LI) (lv' : LI) (hx : a.eval x = .pointer (some ⟨O, 0, none⟩)) (hy : a.eval y = .agg (liA lv')) (hb : LimAt w O lv)
    (hw : Region.wanted o (yielded ops a.tmps) = true) (hh : ∀ w', LimAt w' O lv' → Ch (fun q => q = O) w w' → wpList Try.prog ops Q rest a w') : wpList Try.prog ops Q (o :: rest) a w := by
  refine wpList_step fun K hK => ?_
  rw [if_pos hw]
  refine wp_store_row 36 x y ho O (liA lv') hx hy _ (liA lv) hb Try.size_lim rfl (by simp [liA, Value.oneCell']) (hK _ _ ?_)
  rw [hd]
  refine hh _ (setRow_heap w O _ _ _ _ hb) ⟨rfl, rfl, rfl, ?_, ?_⟩
  · simp [World.setRow]
  · intro k hk hne
    simp only [World.setRow]
    rw [Array.getElem?_modify, if_neg (fun e => hne e.symm)]
theorem wpList_alloc_lim {ops : Array Oper} {rest : List Oper} {o : Oper} {a : Act} {w : World} {Q : Exit → Act → World → Prop} (ho : o.op = .alloc 36) (hw : Region.wanted o (yielded ops a.tmps) = true)
    (h : wpList Try.prog ops Q rest (a.put o.dst (.pointer (some ⟨w.heap.size, 0, none⟩))) (w.alloc (.cells (liA lz) 36))) : wpList Try.prog ops Q (o :: rest) a w := by
  refine wpList_step fun K hK => ?_
  rw [if_pos hw]
  have hrun : (execOp a.eval o).run Try.prog w = .ok (.value (.pointer (some ⟨w.heap.size, 0, none⟩))) (w.alloc (.cells (liA lz) 36)) := by
    obtain ⟨dst, op, type, pos, after, guard⟩ := o
    simp only at ho
    subst ho
    simp only [execOp]
    go_simp
    rfl
  unfold Oper.wp
  rw [hrun]
  exact hK _ _ h
theorem yields_lim {ops : Array Oper} {o : Oper} {a : Act} {S : World → Prop} (x : Operand) (ho : o.op = .load 36 x) (O off : Nat) (lv : LI) (hx : a.eval x = .pointer (some ⟨O, off, none⟩)) (hw : Region.wanted o (yielded ops a.tmps) = true) (hS : ∀ w, S w → w.rangeAt O off (liA lv).toList) : YieldsIf Try.prog ops S o (.agg (liA lv)) a :=
  yieldsIf_load_mid hw 36 x ho O off hx (liA lv).toList _ hS Try.underlying36 rfl Try.size_lim
theorem wpList_mid_lim {ops : Array Oper} {rest : List Oper} {o : Oper} {a : Act} {w : World} {Q : Exit → Act → World → Prop} (x : Operand) (ho : o.op = .load 36 x) (O off : Nat) (lv : LI) (hx : a.eval x = .pointer (some ⟨O, off, none⟩)) (hb : w.rangeAt O off (liA lv).toList)
    (hw : Region.wanted o (yielded ops a.tmps) = true) (h : wpList Try.prog ops Q rest (a.put o.dst (.agg (liA lv))) w) : wpList Try.prog ops Q (o :: rest) a w := by
  refine wpList_step fun K hK => ?_
  rw [if_pos hw]
  exact wp_load_mid 36 x ho O off hx (liA lv).toList _ hb Try.underlying36 rfl Try.size_lim (hK _ _ h)
theorem results_lim {fn : Func} {p : Tmp} (h : fn.results = #[.cell p 36]) (tmps : Array Value) (w : World) (O : Nat) (lv : LI) (hp : tmps.getD p undef = .pointer (some ⟨O, 0, none⟩)) (hb : LimAt w O lv) :
    (results fn tmps).run Try.prog w = .ok (.agg (liA lv)) w :=
  results_cell_row h tmps w O _ (liA lv) _ _ hp hb Try.underlying36 rfl Try.size_lim
theorem Try.size_itm : (Try.prog.info? 119).map (·.size) = some 2 := by kernel_rfl
def ItmAt (w : World) (O : Nat) (xv : Int × Int) : Prop := w.heap[O]? = some (.cells (itA xv) 119 (0, 0))
section
variable {w : World} {O : Nat} {xv : Int × Int} (k : ItmAt w O xv)
include k
theorem ItmAt.lt : O < w.heap.size := (Array.getElem?_eq_some_iff.1 k).1
theorem ItmAt.ch {S : Nat → Prop} {w' : World} (c : Ch S w w') (hS : ¬ S O) : ItmAt w' O xv := (c.block O k.lt hS).trans k
theorem ItmAt.below {w' : World} (c : Below w.heap.size w w') : ItmAt w' O xv := (c.block O k.lt).trans k
theorem ItmAt.cell (i : Nat) : w.cell? ⟨O, i, none⟩ = (itA xv)[i]? := by unfold ItmAt at k; simp [World.cell?, k]
theorem ItmAt.fz (j : Nat) : w.frozen? ⟨O, j, none⟩ = false := by unfold ItmAt at k; simp [World.frozen?, k]
theorem ItmAt.range (o n : Nat) : w.rangeAt O o (((itA xv).extract o (o + n)).toList) := World.rangeAt_of_block k o n
end
theorem itm_new (w : World) (xv : Int × Int) : ItmAt (w.alloc (.cells (itA xv) 119)) w.heap.size xv := heap_alloc_new _ _
theorem wpList_load_itm {ops : Array Oper} {rest : List Oper} {o : Oper} {a : Act} {w : World} {Q : Exit → Act → World → Prop} (x : Operand) (ho : o.op = .load 119 x) (O : Nat) (xv : Int × Int) (hx : a.eval x = .pointer (some ⟨O, 0, none⟩)) (hb : ItmAt w O xv)
    (hw : Region.wanted o (yielded ops a.tmps) = true) (hh : wpList Try.prog ops Q rest (a.put o.dst (.agg (itA xv))) w) : wpList Try.prog ops Q (o :: rest) a w := by
  refine wpList_step fun K hK => ?_
  rw [if_pos hw]
  exact wp_load_row 119 x ho O hx _ _ _ _ hb Try.underlying119 rfl Try.size_itm (hK _ _ hh)
theorem wpList_store_itm {ops : Array Oper} {rest : List Oper} {o : Oper} {a : Act} {w : World} {Q : Exit → Act → World → Prop} (x y : Operand) (ho : o.op = .store 119 x y) (hd : o.dst = none) (O : Nat) (xv : Int × Int) (xv' : Int × Int) (hx : a.eval x = .pointer (some ⟨O, 0, none⟩)) (hy : a.eval y = .agg (itA xv')) (hb : ItmAt w O xv)
    (hw : Region.wanted o (yielded ops a.tmps) = true) (hh : ∀ w', ItmAt w' O xv' → Ch (fun q => q = O) w w' → wpList Try.prog ops Q rest a w') : wpList Try.prog ops Q (o :: rest) a w := by
  refine wpList_step fun K hK => ?_
  rw [if_pos hw]
  refine wp_store_row 119 x y ho O (itA xv') hx hy _ (itA xv) hb Try.size_itm rfl (by simp [itA, Value.oneCell']) (hK _ _ ?_)
  rw [hd]
  refine hh _ (setRow_heap w O _ _ _ _ hb) ⟨rfl, rfl, rfl, ?_, ?_⟩
  · simp [World.setRow]
  · intro k hk hne
    simp only [World.setRow]
    rw [Array.getElem?_modify, if_neg (fun e => hne e.symm)]
theorem wpList_alloc_itm {ops : Array Oper} {rest : List Oper} {o : Oper} {a : Act} {w : World} {Q : Exit → Act → World → Prop} (ho : o.op = .alloc 119) (hw : Region.wanted o (yielded ops a.tmps) = true)
    (h : wpList Try.prog ops Q rest (a.put o.dst (.pointer (some ⟨w.heap.size, 0, none⟩))) (w.alloc (.cells (itA iz) 119))) : wpList Try.prog ops Q (o :: rest) a w := by
  refine wpList_step fun K hK => ?_
  rw [if_pos hw]
  have hrun : (execOp a.eval o).run Try.prog w = .ok (.value (.pointer (some ⟨w.heap.size, 0, none⟩))) (w.alloc (.cells (itA iz) 119)) := by
    obtain ⟨dst, op, type, pos, after, guard⟩ := o
    simp only at ho
    subst ho
    simp only [execOp]
    go_simp
    rfl
  unfold Oper.wp
  rw [hrun]
  exact hK _ _ h
theorem yields_itm {ops : Array Oper} {o : Oper} {a : Act} {S : World → Prop} (x : Operand) (ho : o.op = .load 119 x) (O off : Nat) (xv : Int × Int) (hx : a.eval x = .pointer (some ⟨O, off, none⟩)) (hw : Region.wanted o (yielded ops a.tmps) = true) (hS : ∀ w, S w → w.rangeAt O off (itA xv).toList) : YieldsIf Try.prog ops S o (.agg (itA xv)) a :=
  yieldsIf_load_mid hw 119 x ho O off hx (itA xv).toList _ hS Try.underlying119 rfl Try.size_itm
theorem wpList_mid_itm {ops : Array Oper} {rest : List Oper} {o : Oper} {a : Act} {w : World} {Q : Exit → Act → World → Prop} (x : Operand) (ho : o.op = .load 119 x) (O off : Nat) (xv : Int × Int) (hx : a.eval x = .pointer (some ⟨O, off, none⟩)) (hb : w.rangeAt O off (itA xv).toList)
    (hw : Region.wanted o (yielded ops a.tmps) = true) (h : wpList Try.prog ops Q rest (a.put o.dst (.agg (itA xv))) w) : wpList Try.prog ops Q (o :: rest) a w := by
  refine wpList_step fun K hK => ?_
  rw [if_pos hw]
  exact wp_load_mid 119 x ho O off hx (itA xv).toList _ hb Try.underlying119 rfl Try.size_itm (hK _ _ h)
theorem results_itm {fn : Func} {p : Tmp} (h : fn.results = #[.cell p 119]) (tmps : Array Value) (w : World) (O : Nat) (xv : Int × Int) (hp : tmps.getD p undef = .pointer (some ⟨O, 0, none⟩)) (hb : ItmAt w O xv) :
    (results fn tmps).run Try.prog w = .ok (.agg (itA xv)) w :=
  results_cell_row h tmps w O _ (itA xv) _ _ hp hb Try.underlying119 rfl Try.size_itm
theorem Try.size_trn : (Try.prog.info? 102).map (·.size) = some 10 := by kernel_rfl
def TrnAt (w : World) (O : Nat) (tv : TN) : Prop := w.heap[O]? = some (.cells (tnA tv) 102 (0, 0))
section
variable {w : World} {O : Nat} {tv : TN} (k : TrnAt w O tv)
include k
theorem TrnAt.lt : O < w.heap.size := (Array.getElem?_eq_some_iff.1 k).1
theorem TrnAt.ch {S : Nat → Prop} {w' : World} (c : Ch S w w') (hS : ¬ S O) : TrnAt w' O tv := (c.block O k.lt hS).trans k
theorem TrnAt.below {w' : World} (c : Below w.heap.size w w') : TrnAt w' O tv := (c.block O k.lt).trans k
theorem TrnAt.cell (i : Nat) : w.cell? ⟨O, i, none⟩ = (tnA tv)[i]? := by unfold TrnAt at k; simp [World.cell?, k]
theorem TrnAt.fz (j : Nat) : w.frozen? ⟨O, j, none⟩ = false := by unfold TrnAt at k; simp [World.frozen?, k]
theorem TrnAt.range (o n : Nat) : w.rangeAt O o (((tnA tv).extract o (o + n)).toList) := World.rangeAt_of_block k o n
end
theorem trn_new (w : World) (tv : TN) : TrnAt (w.alloc (.cells (tnA tv) 102)) w.heap.size tv := heap_alloc_new _ _
theorem wpList_load_trn {ops : Array Oper} {rest : List Oper} {o : Oper} {a : Act} {w : World} {Q : Exit → Act → World → Prop} (x : Operand) (ho : o.op = .load 102 x) (O : Nat) (tv : TN) (hx : a.eval x = .pointer (some ⟨O, 0, none⟩)) (hb : TrnAt w O tv)
    (hw : Region.wanted o (yielded ops a.tmps) = true) (hh : wpList Try.prog ops Q rest (a.put o.dst (.agg (tnA tv))) w) : wpList Try.prog ops Q (o :: rest) a w := by
  refine wpList_step fun K hK => ?_
  rw [if_pos hw]
  exact wp_load_row 102 x ho O hx _ _ _ _ hb Try.underlying102 rfl Try.size_trn (hK _ _ hh)
theorem wpList_store_trn {ops : Array Oper} {rest : List Oper} {o : Oper} {a : Act} {w : World} {Q : Exit → Act → World → Prop} (x y : Operand) (ho : o.op = .store 102 x y) (hd : o.dst = none) (O : Nat) (tv : TN) (tv' : TN) (hx : a.eval x = .pointer (some ⟨O, 0, none⟩)) (hy : a.eval y = .agg (tnA tv')) (hb : TrnAt w O tv)
    (hw : Region.wanted o (yielded ops a.tmps) = true) (hh : ∀ w', TrnAt w' O tv' → Ch (fun q => q = O) w w' → wpList Try.prog ops Q rest a w') : wpList Try.prog ops Q (o :: rest) a w := by
  refine wpList_step fun K hK => ?_
  rw [if_pos hw]
  refine wp_store_row 102 x y ho O (tnA tv') hx hy _ (tnA tv) hb Try.size_trn rfl (by simp [tnA, Value.oneCell']) (hK _ _ ?_)
  rw [hd]
  refine hh _ (setRow_heap w O _ _ _ _ hb) ⟨rfl, rfl, rfl, ?_, ?_⟩
  · simp [World.setRow]
  · intro k hk hne
    simp only [World.setRow]
    rw [Array.getElem?_modify, if_neg (fun e => hne e.symm)]
theorem wpList_alloc_trn {ops : Array Oper} {rest : List Oper} {o : Oper} {a : Act} {w : World} {Q : Exit → Act → World → Prop} (ho : o.op = .alloc 102) (hw : Region.wanted o (yielded ops a.tmps) = true)
    (h : wpList Try.prog ops Q rest (a.put o.dst (.pointer (some ⟨w.heap.size, 0, none⟩))) (w.alloc (.cells (tnA tz) 102))) : wpList Try.prog ops Q (o :: rest) a w := by
  refine wpList_step fun K hK => ?_
  rw [if_pos hw]
  have hrun : (execOp a.eval o).run Try.prog w = .ok (.value (.pointer (some ⟨w.heap.size, 0, none⟩))) (w.alloc (.cells (tnA tz) 102)) := by
    obtain ⟨dst, op, type, pos, after, guard⟩ := o
    simp only at ho
    subst ho
    simp only [execOp]
    go_simp
    rfl
  unfold Oper.wp
  rw [hrun]
  exact hK _ _ h
theorem yields_trn {ops : Array Oper} {o : Oper} {a : Act} {S : World → Prop} (x : Operand) (ho : o.op = .load 102 x) (O off : Nat) (tv : TN) (hx : a.eval x = .pointer (some ⟨O, off, none⟩)) (hw : Region.wanted o (yielded ops a.tmps) = true) (hS : ∀ w, S w → w.rangeAt O off (tnA tv).toList) : YieldsIf Try.prog ops S o (.agg (tnA tv)) a :=
  yieldsIf_load_mid hw 102 x ho O off hx (tnA tv).toList _ hS Try.underlying102 rfl Try.size_trn
theorem wpList_mid_trn {ops : Array Oper} {rest : List Oper} {o : Oper} {a : Act} {w : World} {Q : Exit → Act → World → Prop} (x : Operand) (ho : o.op = .load 102 x) (O off : Nat) (tv : TN) (hx : a.eval x = .pointer (some ⟨O, off, none⟩)) (hb : w.rangeAt O off (tnA tv).toList)
    (hw : Region.wanted o (yielded ops a.tmps) = true) (h : wpList Try.prog ops Q rest (a.put o.dst (.agg (tnA tv))) w) : wpList Try.prog ops Q (o :: rest) a w := by
  refine wpList_step fun K hK => ?_
  rw [if_pos hw]
  exact wp_load_mid 102 x ho O off hx (tnA tv).toList _ hb Try.underlying102 rfl Try.size_trn (hK _ _ h)
theorem results_trn {fn : Func} {p : Tmp} (h : fn.results = #[.cell p 102]) (tmps : Array Value) (w : World) (O : Nat) (tv : TN) (hp : tmps.getD p undef = .pointer (some ⟨O, 0, none⟩)) (hb : TrnAt w O tv) :
    (results fn tmps).run Try.prog w = .ok (.agg (tnA tv)) w :=
  results_cell_row h tmps w O _ (tnA tv) _ _ hp hb Try.underlying102 rfl Try.size_trn

def QueAt (w : World) (P : Nat) (v : Value) (t : TN) : Prop := w.heap[P]? = some (.cells (quA v t) 104 (0, 0))
section
variable {w : World} {P : Nat} {v : Value} {t : TN} (k : QueAt w P v t)
include k
theorem QueAt.lt : P < w.heap.size := (Array.getElem?_eq_some_iff.1 k).1
theorem QueAt.ch {S : Nat → Prop} {w' : World} (c : Ch S w w') (hS : ¬ S P) : QueAt w' P v t := (c.block P k.lt hS).trans k
theorem QueAt.below {w' : World} (c : Below w.heap.size w w') : QueAt w' P v t := (c.block P k.lt).trans k
theorem QueAt.cell (i : Nat) : w.cell? ⟨P, i, none⟩ = (quA v t)[i]? := by unfold QueAt at k; simp [World.cell?, k]
theorem QueAt.fz (j : Nat) : w.frozen? ⟨P, j, none⟩ = false := by unfold QueAt at k; simp [World.frozen?, k]
theorem QueAt.tn : w.rangeAt P 1 (tnA t).toList := by
  have := World.rangeAt_of_block k 1 10
  exact this
end
theorem que_new (w : World) (v : Value) (t : TN) : QueAt (w.alloc (.cells (quA v t) 104)) w.heap.size v t := heap_alloc_new _ _
/-- a line in memory -/
structure LnOk (w : World) (m : CM) : Prop where
  own : GL 2 itL 119 w 0 m.v m.S
  fl : m.f < m.S.length ∨ (m.S.length = 0 ∧ m.f = 0)
  ql : m.c.L.length ≤ m.S.length
  at' : ∀ k, k < m.c.L.length → m.S[(m.f + k) % m.S.length]? = m.c.L[k]?
  nb : m.S.length ≤ 8190
  nl : m.S.length = 0 → m.v = .slice none 0 0
theorem LnOk.ch {S : Nat → Prop} {w w' : World} {m : CM} (h : LnOk w m) (k : Ch S w w') (hS : ∀ q, m.v.ownBlock = some q → ¬ S q) : LnOk w' m := ⟨h.own.ch k hS, h.fl, h.ql, h.at', h.nb, h.nl⟩
/-- a queue in memory -/
structure QA (w : World) (P G : Nat) (ms : List CM) (t : TN) : Prop where
  qb : QueAt w P (.slice (some ⟨G, 0, none⟩) ms.length ms.length) t
  gl : GL 10 cmL 98 w 0 (.slice (some ⟨G, 0, none⟩) ms.length ms.length) ms
  ln : ∀ m ∈ ms, LnOk w m
  ap : ∀ (i j : Nat) (mi mj : CM), i ≠ j → ms[i]? = some mi → ms[j]? = some mj → ∀ q, mi.v.ownBlock = some q → mj.v.ownBlock ≠ some q
/-- its blocks -/
def QB (P G : Nat) (ms : List CM) (q : Nat) : Prop := q = P ∨ q = G ∨ ∃ m ∈ ms, m.v.ownBlock = some q
section
variable {w w' : World} {P G : Nat} {ms : List CM} {t : TN}
theorem QA.ch {S : Nat → Prop} (h : QA w P G ms t) (k : Ch S w w') (hS : ∀ q, QB P G ms q → ¬ S q) : QA w' P G ms t :=
  ⟨h.qb.ch k (hS P (.inl rfl)), h.gl.ch k (fun g hg => by simp only [Value.ownBlock, Option.some.injEq] at hg; exact hS g (.inr (.inl hg.symm))), fun m hm => (h.ln m hm).ch k (fun q hq => hS q (.inr (.inr ⟨m, hm, hq⟩))), h.ap⟩
theorem QA.below (h : QA w P G ms t) (k : Below w.heap.size w w') : QA w' P G ms t := h.ch (Ch.ofBelow (S := fun _ => False) k) (fun _ _ => id)
theorem QA.drew (h : QA w P G ms t) : QA w.drew P G ms t := h.below (Below.refl _ _).drew
theorem QA.gk (h : QA w P G ms t) : G < w.heap.size ∧ ∃ c, w.heap[G]? = some (.cells c 98 (0, 0)) := (h.gl.kind G rfl).2
/-- a block of another kind is none of a queue's -/
theorem QA.apart {B : Nat} {cc : Array Value} {ty : TypeId} (h : QA w P G ms t) (hm : w.heap[B]? = some (.cells cc ty (0, 0))) (h1 : ty ≠ 104) (h2 : ty ≠ 98) (h3 : ty ≠ 119) : ¬ QB P G ms B := by
  rintro (rfl | rfl | ⟨m, hmm, hq⟩)
  · have h4 := h.qb; unfold QueAt at h4; rw [hm] at h4; simp only [Option.some.injEq, Obj.cells.injEq] at h4; exact h1 h4.2.1
  · obtain ⟨c, h4⟩ := h.gk.2; rw [hm] at h4; simp only [Option.some.injEq, Obj.cells.injEq] at h4; exact h2 h4.2.1
  · obtain ⟨_, _, c, h4⟩ := (h.ln m hmm).own.kind B hq; rw [hm] at h4; simp only [Option.some.injEq, Obj.cells.injEq] at h4; exact h3 h4.2.1
theorem QA.lt (h : QA w P G ms t) : ∀ q, QB P G ms q → q < w.heap.size := by
  rintro q (rfl | rfl | ⟨m, hm, hq⟩)
  · exact h.qb.lt
  · exact h.gk.1
  · exact ((h.ln m hm).own.kind q hq).2.1
theorem QA.pg (h : QA w P G ms t) : P ≠ G := fun e => by
  have h1 := h.qb
  obtain ⟨c, h2⟩ := h.gk.2
  unfold QueAt at h1
  rw [e, h2] at h1
  simp only [Option.some.injEq, Obj.cells.injEq] at h1
  exact absurd h1.2.1 (by decide)
theorem QA.pm (h : QA w P G ms t) {m : CM} (hm : m ∈ ms) : m.v.ownBlock ≠ some P ∧ m.v.ownBlock ≠ some G := by
  refine ⟨fun e => ?_, fun e => ?_⟩
  · obtain ⟨_, _, c, h4⟩ := (h.ln m hm).own.kind P e
    have h1 := h.qb
    unfold QueAt at h1
    rw [h4] at h1
    simp only [Option.some.injEq, Obj.cells.injEq] at h1
    exact absurd h1.2.1 (by decide)
  · obtain ⟨_, _, c, h4⟩ := (h.ln m hm).own.kind G e
    obtain ⟨c', h2⟩ := h.gk.2
    rw [h2] at h4
    simp only [Option.some.injEq, Obj.cells.injEq] at h4
    exact absurd h4.2.1 (by decide)
/-- the cells of the class i -/
theorem QA.cells (h : QA w P G ms t) {i : Nat} {m : CM} (hi : ms[i]? = some m) : w.rangeAt G (i * 10) (cmL m) := h.gl.range cmL_len i m hi
theorem QA.fzG (h : QA w P G ms t) (j : Nat) : w.frozen? ⟨G, j, none⟩ = false := h.gl.frozen j
/-- one class is another -/
theorem QA.put (h : QA w P G ms t) {i : Nat} {m m' : CM} (hi : ms[i]? = some m) (k : Ch (fun q => q = G ∨ m.v.ownBlock = some q) w w') (hgl : GL 10 cmL 98 w' 0 (.slice (some ⟨G, 0, none⟩) ms.length ms.length) (ms.set i m')) (hl : LnOk w' m') (hq : ∀ q, m'.v.ownBlock = some q → m.v.ownBlock = some q ∨ w.heap.size ≤ q) : QA w' P G (ms.set i m') t := by
  have hm := List.mem_of_getElem? hi
  have hil := (List.getElem?_eq_some_iff.1 hi).1
  refine ⟨?_, by rw [List.length_set]; exact hgl, fun x hx => ?_, fun a b ma mb hab ha hb q hqa hqb => ?_⟩
  · rw [List.length_set]; exact h.qb.ch k (fun e => e.elim h.pg (h.pm hm).1)
  · obtain ⟨j, hj⟩ := List.getElem?_of_mem hx
    by_cases e : j = i
    · subst e; rw [List.getElem?_set_self hil] at hj; cases hj; exact hl
    · rw [List.getElem?_set_ne (fun x => e x.symm)] at hj
      have hxm := List.mem_of_getElem? hj
      exact (h.ln x hxm).ch k (fun q hq' e' => e'.elim (fun e'' => (h.pm hxm).2 (e'' ▸ hq')) (fun e'' => h.ap j i x m e hj hi q hq' e''))
  · by_cases ea : a = i
    · subst ea
      rw [List.getElem?_set_self hil] at ha; cases ha
      rw [List.getElem?_set_ne hab] at hb
      have hbm := List.mem_of_getElem? hb
      rcases hq q hqa with h1 | h1
      · exact h.ap a b m mb hab hi hb q h1 hqb
      · have := ((h.ln mb hbm).own.kind q hqb).2.1; omega
    · rw [List.getElem?_set_ne (fun x => ea x.symm)] at ha
      have ham := List.mem_of_getElem? ha
      by_cases eb : b = i
      · subst eb
        rw [List.getElem?_set_self hil] at hb; cases hb
        rcases hq q hqb with h1 | h1
        · exact h.ap a b ma m hab ha hi q hqa h1
        · have := ((h.ln ma ham).own.kind q hqa).2.1; omega
      · rw [List.getElem?_set_ne (fun x => eb x.symm)] at hb
        exact h.ap a b ma mb hab ha hb q hqa hqb
theorem qb_set {i : Nat} {m m' : CM} (hi : ms[i]? = some m) {N : Nat} (hq : ∀ q, m'.v.ownBlock = some q → m.v.ownBlock = some q ∨ N ≤ q) : ∀ q, QB P G (ms.set i m') q → QB P G ms q ∨ N ≤ q := by
  rintro q (h | h | ⟨x, hx, h⟩)
  · exact .inl (.inl h)
  · exact .inl (.inr (.inl h))
  · rcases List.mem_or_eq_of_mem_set hx with h1 | rfl
    · exact .inl (.inr (.inr ⟨x, h1, h⟩))
    · exact (hq q h).elim (fun e => .inl (.inr (.inr ⟨m, List.mem_of_getElem? hi, e⟩))) .inr
theorem qb_own {i : Nat} {m : CM} (hi : ms[i]? = some m) : ∀ q, (q = G ∨ m.v.ownBlock = some q) → QB P G ms q := fun _ h => h.elim (fun e => .inr (.inl e)) (fun e => .inr (.inr ⟨m, List.mem_of_getElem? hi, e⟩))
/-- a cell of the class i is another -/
theorem cells_set (i k : Nat) (m m' : CM) (u : Value) (hi : ms[i]? = some m) (hk : k < 10) (hm : (cmL m).set k u = cmL m') : (ms.flatMap cmL).set (i * 10 + k) u = (ms.set i m').flatMap cmL := by
  have hil := (List.getElem?_eq_some_iff.1 hi).1
  apply List.ext_getElem?
  intro j
  by_cases hj : j < ms.length * 10
  · have hq : j / 10 < ms.length := by omega
    have hr : j % 10 < 10 := by omega
    have ej : j / 10 * 10 + j % 10 = j := by omega
    obtain ⟨x, hx⟩ : ∃ x, ms[j / 10]? = some x := ⟨_, List.getElem?_eq_getElem hq⟩
    have e1 := fmc_get 10 cmL cmL_len ms (j / 10) x hx (j % 10) hr
    rw [ej] at e1
    by_cases e : j / 10 = i
    · have hx' : (ms.set i m')[j / 10]? = some m' := by rw [e, List.getElem?_set_self hil]
      have e2 := fmc_get 10 cmL cmL_len (ms.set i m') (j / 10) m' hx' (j % 10) hr
      rw [ej] at e2
      rw [e2, ← hm]
      have hxm : x = m := by rw [e, hi] at hx; exact (Option.some.inj hx).symm
      subst hxm
      by_cases e3 : j % 10 = k
      · rw [show i * 10 + k = j by omega, e3, List.getElem?_set_self (by rw [fmc_len 10 cmL cmL_len]; exact hj), List.getElem?_set_self (by rw [cmL_len]; exact hk)]
      · rw [List.getElem?_set_ne (by omega), List.getElem?_set_ne (fun e4 => e3 e4.symm), e1]
    · have hx' : (ms.set i m')[j / 10]? = some x := by rw [List.getElem?_set_ne (fun e4 => e e4.symm)]; exact hx
      have e2 := fmc_get 10 cmL cmL_len (ms.set i m') (j / 10) x hx' (j % 10) hr
      rw [ej] at e2
      rw [List.getElem?_set_ne (by omega), e1, e2]
  · rw [List.getElem?_eq_none (by rw [List.length_set, fmc_len 10 cmL cmL_len]; omega), List.getElem?_eq_none (by rw [fmc_len 10 cmL cmL_len, List.length_set]; omega)]
theorem gl_set {n : Nat} (h : GL 10 cmL 98 w 0 (.slice (some ⟨G, 0, none⟩) n n) ms) (i k : Nat) {m m' : CM} (u : Value) (hi : ms[i]? = some m) (hk : k < 10) (hm : (cmL m).set k u = cmL m') : GL 10 cmL 98 (w.setCell ⟨G, i * 10 + k, none⟩ u) 0 (.slice (some ⟨G, 0, none⟩) n n) (ms.set i m') := by
  have hn := h.len
  subst hn
  have h1 := (World.ownsRow.stored h (i * 10 + k) u).1
  rw [cells_set i k m m' u hi hk hm] at h1
  show World.ownsRow _ 0 _ 10 _ (ms.set i m').length _
  rw [List.length_set]
  exact h1
end
def up8 (f : Nat → Int) : List Value := [.int .i64 (f 0), .int .i64 (f 1), .int .i64 (f 2), .int .i64 (f 3), .int .i64 (f 4), .int .i64 (f 5), .int .i64 (f 6), .int .i64 (f 7)]
theorem lt8 {j : Nat} (h : j < 8) : j = 0 ∨ j = 1 ∨ j = 2 ∨ j = 3 ∨ j = 4 ∨ j = 5 ∨ j = 6 ∨ j = 7 := by omega
theorem TrnAt.dc {w : World} {B : Nat} {t : TN} (h : TrnAt w B t) (i : Nat) (hi : i < 8) : w.cell? ⟨B, 2 + i, none⟩ = some (.int .i64 (t.de i)) := by
  rw [h.cell]
  rcases lt8 hi with rfl | rfl | rfl | rfl | rfl | rfl | rfl | rfl <;> rfl
theorem TrnAt.setd {w : World} {B : Nat} {t : TN} (h : TrnAt w B t) (i : Nat) (hi : i < 8) (v : Int) : TrnAt (w.setCell ⟨B, 2 + i, none⟩ (.int .i64 v)) B ⟨t.at', t.gv, up t.de i v⟩ := by
  unfold TrnAt at h ⊢
  rw [heap_setCell_same w B (2 + i) _ _ _ h]
  rcases lt8 hi with rfl | rfl | rfl | rfl | rfl | rfl | rfl | rfl <;> rfl
theorem TrnAt.set {w : World} {B : Nat} {t t' : TN} (h : TrnAt w B t) (i : Nat) (u : Value) (he : (tnA t).setIfInBounds i u = tnA t') : TrnAt (w.setCell ⟨B, i, none⟩ u) B t' := by
  unfold TrnAt at h ⊢
  rw [heap_setCell_same w B i _ _ _ h, he]
end Go.Proofs.Ytclkcpdghpaboaa
