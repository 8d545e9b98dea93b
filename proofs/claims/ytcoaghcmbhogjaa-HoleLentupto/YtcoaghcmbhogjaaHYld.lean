/-
  Loads and stores: a piece and an answer in their boxes; loads inside regions that draw.
-/
import Derived.Test.YtcoaghcmbhogjaaHMem
import Derived.Deep.DeepHandedRow
import Derived.Deep.MidRow
import Derived.Lib.SmallJoins
namespace Go.Proofs.Ytcoaghcmbhogjaa
open Go.RowKit Go.Maps
namespace H11
theorem yields_int {ops : Array Oper} {o : Oper} {a : Act} {S : World → Prop} (x : Operand) (ho : o.op = .load 3 x) (p : Addr) (u : Value) (hx : a.eval x = .pointer (some p)) (hw : Region.wanted o (yielded ops a.tmps) = true) (hS : ∀ w, S w → w.cell? p = some u) : YieldsIf Try.prog ops S o u a := by
  refine .inl ⟨hw, fun w hb => ?_⟩
  have hc := hS w hb
  have hu := Try.underlying3
  obtain ⟨dst, op, type, pos, after, guard⟩ := o
  simp only at ho
  subst ho
  simp only [execOp, Sem.run_bind, Sem.run_pure]
  rw [hx]
  simp [Instr.loadAt, go_sem, hc]
theorem yields_bool {ops : Array Oper} {o : Oper} {a : Act} {S : World → Prop} (x : Operand) (ho : o.op = .load 4 x) (p : Addr) (u : Value) (hx : a.eval x = .pointer (some p)) (hw : Region.wanted o (yielded ops a.tmps) = true) (hS : ∀ w, S w → w.cell? p = some u) : YieldsIf Try.prog ops S o u a := by
  refine .inl ⟨hw, fun w hb => ?_⟩
  have hc := hS w hb
  have hu := Try.underlying4
  obtain ⟨dst, op, type, pos, after, guard⟩ := o
  simp only at ho
  subst ho
  simp only [execOp, Sem.run_bind, Sem.run_pure]
  rw [hx]
  simp [Instr.loadAt, go_sem, hc]
theorem yields_bytes {ops : Array Oper} {o : Oper} {a : Act} {S : World → Prop} (x : Operand) (ho : o.op = .load 22 x) (p : Addr) (u : Value) (hx : a.eval x = .pointer (some p)) (hw : Region.wanted o (yielded ops a.tmps) = true) (hS : ∀ w, S w → w.cell? p = some u) : YieldsIf Try.prog ops S o u a := by
  refine .inl ⟨hw, fun w hb => ?_⟩
  have hc := hS w hb
  have hu := Try.underlying22
  obtain ⟨dst, op, type, pos, after, guard⟩ := o
  simp only at ho
  subst ho
  simp only [execOp, Sem.run_bind, Sem.run_pure]
  rw [hx]
  simp [Instr.loadAt, go_sem, hc]
theorem yields_gaps {ops : Array Oper} {o : Oper} {a : Act} {S : World → Prop} (x : Operand) (ho : o.op = .load 43 x) (p : Addr) (u : Value) (hx : a.eval x = .pointer (some p)) (hw : Region.wanted o (yielded ops a.tmps) = true) (hS : ∀ w, S w → w.cell? p = some u) : YieldsIf Try.prog ops S o u a := by
  refine .inl ⟨hw, fun w hb => ?_⟩
  have hc := hS w hb
  have hu := Try.underlying43
  obtain ⟨dst, op, type, pos, after, guard⟩ := o
  simp only at ho
  subst ho
  simp only [execOp, Sem.run_bind, Sem.run_pure]
  rw [hx]
  simp [Instr.loadAt, go_sem, hc]
theorem yields_map {ops : Array Oper} {o : Oper} {a : Act} {S : World → Prop} (x : Operand) (ho : o.op = .load 74 x) (p : Addr) (u : Value) (hx : a.eval x = .pointer (some p)) (hw : Region.wanted o (yielded ops a.tmps) = true) (hS : ∀ w, S w → w.cell? p = some u) : YieldsIf Try.prog ops S o u a := by
  refine .inl ⟨hw, fun w hb => ?_⟩
  have hc := hS w hb
  have hu := Try.underlying74
  obtain ⟨dst, op, type, pos, after, guard⟩ := o
  simp only at ho
  subst ho
  simp only [execOp, Sem.run_bind, Sem.run_pure]
  rw [hx]
  simp [Instr.loadAt, go_sem, hc]
theorem Try.sizePc : (Try.prog.info? 78).map (·.size) = some 3 := by kernel_rfl
def PcAt (w : World) (O : Nat) (C : Array Value) : Prop := w.heap[O]? = some (.cells C 78 (0, 0))
section
variable {w : World} {O : Nat} {C : Array Value} (k : PcAt w O C)
include k
theorem PcAt.lt : O < w.heap.size := (Array.getElem?_eq_some_iff.1 k).1
theorem PcAt.ch {S : Nat → Prop} {w' : World} (h : Ch S w w') (hS : ¬ S O) : PcAt w' O C := (h.block O k.lt hS).trans k
theorem PcAt.below {w' : World} (h : Below w.heap.size w w') : PcAt w' O C := (h.block O k.lt).trans k
theorem PcAt.cell (i : Nat) : w.cell? ⟨O, i, none⟩ = C[i]? := by unfold PcAt at k; simp [World.cell?, k]
theorem PcAt.fz (j : Nat) : w.frozen? ⟨O, j, none⟩ = false := by
  unfold PcAt at k
  simp [World.frozen?, k]
end
theorem PcAt_new (w : World) (C : Array Value) : PcAt (w.alloc (.cells C 78)) w.heap.size C := heap_alloc_new _ _
theorem wpList_load_Pc {ops : Array Oper} {rest : List Oper} {o : Oper} {a : Act} {w : World} {Q : Exit → Act → World → Prop} (x : Operand) (ho : o.op = .load 78 x) (O : Nat) (C : Array Value) (hC : C.size = 3) (hx : a.eval x = .pointer (some ⟨O, 0, none⟩)) (hb : PcAt w O C)
    (hw : Region.wanted o (yielded ops a.tmps) = true) (hh : wpList Try.prog ops Q rest (a.put o.dst (.agg C)) w) : wpList Try.prog ops Q (o :: rest) a w := by
  refine wpList_step fun K hK => ?_
  rw [if_pos hw]
  exact wp_load_row 78 x ho O hx _ _ _ _ hb Try.underlying78 rfl (by rw [hC]; exact Try.sizePc) (hK _ _ hh)
theorem wpList_store_Pc {ops : Array Oper} {rest : List Oper} {o : Oper} {a : Act} {w : World} {Q : Exit → Act → World → Prop} (x y : Operand) (ho : o.op = .store 78 x y) (hd : o.dst = none) (O : Nat) (C C' : Array Value) (hC : C.size = 3) (hC' : C'.size = 3) (h1 : (C'.all fun x => x.oneCell') = true) (hx : a.eval x = .pointer (some ⟨O, 0, none⟩)) (hy : a.eval y = .agg C') (hb : PcAt w O C)
    (hw : Region.wanted o (yielded ops a.tmps) = true) (hh : ∀ w', PcAt w' O C' → Ch (fun q => q = O) w w' → wpList Try.prog ops Q rest a w') : wpList Try.prog ops Q (o :: rest) a w := by
  refine wpList_step fun K hK => ?_
  rw [if_pos hw]
  refine wp_store_row 78 x y ho O C' hx hy _ C hb (by rw [hC']; exact Try.sizePc) (by rw [hC, hC']) h1 (hK _ _ ?_)
  rw [hd]
  refine hh _ (setRow_heap w O _ _ _ _ hb) ⟨rfl, rfl, rfl, ?_, ?_⟩
  · simp [World.setRow]
  · intro k hk hne
    simp only [World.setRow]
    rw [Array.getElem?_modify, if_neg (fun e => hne e.symm)]
theorem yields_Pc {ops : Array Oper} {o : Oper} {a : Act} {S : World → Prop} (x : Operand) (ho : o.op = .load 78 x) (O : Nat) (C : Array Value) (hC : C.size = 3) (hx : a.eval x = .pointer (some ⟨O, 0, none⟩)) (hw : Region.wanted o (yielded ops a.tmps) = true)
    (hS : ∀ w, S w → PcAt w O C) : YieldsIf Try.prog ops S o (.agg C) a := by
  refine .inl ⟨hw, fun w hb => ?_⟩
  have hrun := run_loadVar_row w O _ 78 C _ _ (hS w hb) Try.underlying78 rfl (by rw [hC]; exact Try.sizePc)
  unfold execOp
  simp only [ho, hx, Instr.loadAt, Instr.sureAddr, Sem.run_bind, Sem.run_pure, Result.andThen_ok, hrun]
theorem Try.sizeFt : (Try.prog.info? 33).map (·.size) = some 3 := by kernel_rfl
def FtAt (w : World) (O : Nat) (C : Array Value) : Prop := w.heap[O]? = some (.cells C 33 (0, 0))
section
variable {w : World} {O : Nat} {C : Array Value} (k : FtAt w O C)
include k
theorem FtAt.lt : O < w.heap.size := (Array.getElem?_eq_some_iff.1 k).1
theorem FtAt.ch {S : Nat → Prop} {w' : World} (h : Ch S w w') (hS : ¬ S O) : FtAt w' O C := (h.block O k.lt hS).trans k
theorem FtAt.below {w' : World} (h : Below w.heap.size w w') : FtAt w' O C := (h.block O k.lt).trans k
theorem FtAt.cell (i : Nat) : w.cell? ⟨O, i, none⟩ = C[i]? := by unfold FtAt at k; simp [World.cell?, k]
theorem FtAt.fz (j : Nat) : w.frozen? ⟨O, j, none⟩ = false := by
  unfold FtAt at k
  simp [World.frozen?, k]
end
theorem FtAt_new (w : World) (C : Array Value) : FtAt (w.alloc (.cells C 33)) w.heap.size C := heap_alloc_new _ _
theorem wpList_load_Ft {ops : Array Oper} {rest : List Oper} {o : Oper} {a : Act} {w : World} {Q : Exit → Act → World → Prop} (x : Operand) (ho : o.op = .load 33 x) (O : Nat) (C : Array Value) (hC : C.size = 3) (hx : a.eval x = .pointer (some ⟨O, 0, none⟩)) (hb : FtAt w O C)
    (hw : Region.wanted o (yielded ops a.tmps) = true) (hh : wpList Try.prog ops Q rest (a.put o.dst (.agg C)) w) : wpList Try.prog ops Q (o :: rest) a w := by
  refine wpList_step fun K hK => ?_
  rw [if_pos hw]
  exact wp_load_row 33 x ho O hx _ _ _ _ hb Try.underlying33 rfl (by rw [hC]; exact Try.sizeFt) (hK _ _ hh)
theorem wpList_store_Ft {ops : Array Oper} {rest : List Oper} {o : Oper} {a : Act} {w : World} {Q : Exit → Act → World → Prop} (x y : Operand) (ho : o.op = .store 33 x y) (hd : o.dst = none) (O : Nat) (C C' : Array Value) (hC : C.size = 3) (hC' : C'.size = 3) (h1 : (C'.all fun x => x.oneCell') = true) (hx : a.eval x = .pointer (some ⟨O, 0, none⟩)) (hy : a.eval y = .agg C') (hb : FtAt w O C)
    (hw : Region.wanted o (yielded ops a.tmps) = true) (hh : ∀ w', FtAt w' O C' → Ch (fun q => q = O) w w' → wpList Try.prog ops Q rest a w') : wpList Try.prog ops Q (o :: rest) a w := by
  refine wpList_step fun K hK => ?_
  rw [if_pos hw]
  refine wp_store_row 33 x y ho O C' hx hy _ C hb (by rw [hC']; exact Try.sizeFt) (by rw [hC, hC']) h1 (hK _ _ ?_)
  rw [hd]
  refine hh _ (setRow_heap w O _ _ _ _ hb) ⟨rfl, rfl, rfl, ?_, ?_⟩
  · simp [World.setRow]
  · intro k hk hne
    simp only [World.setRow]
    rw [Array.getElem?_modify, if_neg (fun e => hne e.symm)]
theorem yields_Ft {ops : Array Oper} {o : Oper} {a : Act} {S : World → Prop} (x : Operand) (ho : o.op = .load 33 x) (O : Nat) (C : Array Value) (hC : C.size = 3) (hx : a.eval x = .pointer (some ⟨O, 0, none⟩)) (hw : Region.wanted o (yielded ops a.tmps) = true)
    (hS : ∀ w, S w → FtAt w O C) : YieldsIf Try.prog ops S o (.agg C) a := by
  refine .inl ⟨hw, fun w hb => ?_⟩
  have hrun := run_loadVar_row w O _ 33 C _ _ (hS w hb) Try.underlying33 rfl (by rw [hC]; exact Try.sizeFt)
  unfold execOp
  simp only [ho, hx, Instr.loadAt, Instr.sureAddr, Sem.run_bind, Sem.run_pure, Result.andThen_ok, hrun]

end H11
end Go.Proofs.Ytcoaghcmbhogjaa
