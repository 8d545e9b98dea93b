/-
  whom; two messages held against each other, as one step.
-/
import Derived.Test.YtijipfciimcnpaaDoorI8Eq
namespace Go.Proofs.YtijipfciimcnpaaDoor
open Go.RowKit
open I8 (M8)

def whX (i : Nat) : Nat := [32, 1, 0, 0, 0, 0, 0, 0, 0, 0, 0, 0, 0, 0, 0, 1].getD i 0
def whM (i : Nat) : Nat := [2, 0, 0, 0, 0, 1].getD i 0
theorem built_wha : Tryd.prog.built 22 [(0, .int .u8 32), (1, .int .u8 1), (15, .int .u8 1)] = some (arCells whX) := by kernel_rfl
theorem wpList_wha_built {ops : Array Oper} {rest : List Oper} {o : Oper} {a : Act} {w : World} {Q : Exit → Act → World → Prop}  (ho : o.op = .build 22 #[(0, .const (.int .u8 32)), (1, .const (.int .u8 1)), (15, .const (.int .u8 1))]) (hw : Region.wanted o (yielded ops a.tmps) = true)
    (h : wpList Tryd.prog ops Q rest (a.put o.dst (.agg (arCells whX))) w) : wpList Tryd.prog ops Q (o :: rest) a w := by
  refine wpList_step fun K hK => ?_
  rw [if_pos hw]
  unfold Oper.wp execOp
  have := run_build (P := Tryd.prog) w 22 #[(0, .int .u8 32), (1, .int .u8 1), (15, .int .u8 1)] _ built_wha
  simp only [ho, Sem.run_bind, List.map_toArray, List.map_cons, List.map_nil, this, Act.eval, Result.andThen_ok]
  exact hK _ _ h
theorem built_whi : Tryd.prog.built 24 [(0, .int .i64 6), (1, .agg (arCells whX))] = some (ipCells 6 whX) := by kernel_rfl
theorem wpList_whi_built {ops : Array Oper} {rest : List Oper} {o : Oper} {a : Act} {w : World} {Q : Exit → Act → World → Prop} (x1 : Operand) (ho : o.op = .build 24 #[(0, .const (.int .i64 6)), (1, x1)]) (h1 : a.eval x1 = .agg (arCells whX)) (hw : Region.wanted o (yielded ops a.tmps) = true)
    (h : wpList Tryd.prog ops Q rest (a.put o.dst (.agg (ipCells 6 whX))) w) : wpList Tryd.prog ops Q (o :: rest) a w := by
  refine wpList_step fun K hK => ?_
  rw [if_pos hw]
  unfold Oper.wp execOp
  have := run_build (P := Tryd.prog) w 24 #[(0, .int .i64 6), (1, .agg (arCells whX))] _ built_whi
  have h0 : a.eval (.const (.int .i64 6)) = .int .i64 6 := rfl
  simp only [ho, Sem.run_bind, List.map_toArray, List.map_cons, List.map_nil, h0, h1, this, Result.andThen_ok]
  exact hK _ _ h
theorem built_whm : Tryd.prog.built 26 [(0, .int .u8 2), (1, .int .u8 0), (2, .int .u8 0), (3, .int .u8 0), (4, .int .u8 0), (5, .int .u8 1)] = some (macC whM) := by kernel_rfl
theorem wpList_whm_built {ops : Array Oper} {rest : List Oper} {o : Oper} {a : Act} {w : World} {Q : Exit → Act → World → Prop}  (ho : o.op = .build 26 #[(0, .const (.int .u8 2)), (1, .const (.int .u8 0)), (2, .const (.int .u8 0)), (3, .const (.int .u8 0)), (4, .const (.int .u8 0)), (5, .const (.int .u8 1))]) (hw : Region.wanted o (yielded ops a.tmps) = true)
    (h : wpList Tryd.prog ops Q rest (a.put o.dst (.agg (macC whM))) w) : wpList Tryd.prog ops Q (o :: rest) a w := by
  refine wpList_step fun K hK => ?_
  rw [if_pos hw]
  unfold Oper.wp execOp
  have := run_build (P := Tryd.prog) w 26 #[(0, .int .u8 2), (1, .int .u8 0), (2, .int .u8 0), (3, .int .u8 0), (4, .int .u8 0), (5, .int .u8 1)] _ built_whm
  simp only [ho, Sem.run_bind, List.map_toArray, List.map_cons, List.map_nil, this, Act.eval, Result.andThen_ok]
  exact hK _ _ h
def whN : Array Value := ndC 1 6 whX false false false true whM
set_option maxHeartbeats 800000 in
set_option maxRecDepth 100000 in
theorem whom_any (w : World) : Calls Tryd.prog 35 #[] w fun e w' => e = .returned (.agg whN) ∧ Below w.heap.size w w' := by
  have hn := ndAt_new w ndZ
  have bel : Below w.heap.size w (w.alloc (.cells ndZ 28)) := (Below.refl _ _).alloc (Nat.le_refl _) _
  obtain ⟨W, hW⟩ : ∃ W, W = w.alloc (.cells ndZ 28) := ⟨_, rfl⟩
  rw [← hW] at hn bel
  obtain ⟨R, hR⟩ : ∃ R, R = w.heap.size := ⟨_, rfl⟩
  rw [← hR] at hn
  have HW : Hid (w.alloc (.cells ndZ 28) = W) := hW.symm
  have HR : Hid (w.heap.size = R) := hR.symm
  have HN : Hid (NdAt W R ndZ) := hn
  clear hn hW hR
  go_enter Tryd.func35, Tryd.ntmps35
  go_wp2_with (first | (refine wpList_alloc_nd rfl rfl ?_; rw [HW.out, HR.out]) | (refine wpList_wha_built rfl rfl ?_) | (refine wpList_whi_built (.tmp 1) rfl rfl rfl ?_) | (refine wpList_whm_built rfl rfl ?_) | (refine wpList_ndv_built (.const (.int .i64 1)) (.tmp 2) (.const (.bool true)) (.tmp 3) rfl 1 6 whX true whM rfl rfl rfl rfl rfl ?_) | (refine wpList_store_nd (.tmp 0) (.tmp 4) rfl rfl R ndZ whN ndZ_size rfl (ndC_one _ _ _ _ _ _ _ _) rfl rfl HN.out rfl ?_))
  intro wE hRE kE
  have HRE : Hid (NdAt wE R whN) := hRE
  have HFE : Hid (Below w.heap.size w wE) := bel.trans (kE.below (fun q e => by have e' : q = R := e; have := HR.out; omega) bel.size)
  clear hRE kE
  go_wp2
  (try simp only [Exit.inBlock, Exit.then])
  refine bodyPost_ret (results_cell_row rfl _ _ R 28 whN _ _ rfl HRE.out Tryd.underlying28 rfl Tryd.sizeNd) rfl ?_
  exact ⟨rfl, HFE.out⟩
theorem wpList_eql_nd {ops : Array Oper} {rest : List Oper} {o : Oper} {a : Act} {w : World} {Q : Exit → Act → World → Prop} (X Y : Operand) (ho : o.op = .binOp .eql 28 X Y 28) (k V : Int) (x : Nat → Nat) (r s o' h : Bool) (m : Nat → Nat) (hx : a.eval X = .agg (ndC k V x r s o' h m)) (hy : a.eval Y = .agg (ndC k V x r s o' h m))
    (hw : Region.wanted o (yielded ops a.tmps) = true) (hh : wpList Tryd.prog ops Q rest (a.put o.dst (.bool true)) w) : wpList Tryd.prog ops Q (o :: rest) a w := by
  refine wpList_step fun K hK => ?_
  rw [if_pos hw]
  have hrun : (execOp a.eval o).run Tryd.prog w = .ok (.value (.bool true)) w := by
    obtain ⟨dst, op, type, pos, after, guard⟩ := o
    simp only at ho
    subst ho
    simp only [execOp, Sem.run_bind, Sem.run_pure, hx, hy, run_eqGuard_agg w .eql 28 _ _ _ _ Tryd.ndGuard, Result.andThen_ok, run_eql_struct, eqND]
  unfold Oper.wp
  rw [hrun]
  exact hK _ _ hh
theorem yields_eql_nd {ops : Array Oper} {o : Oper} {a : Act} {S : World → Prop} (X Y : Operand) (ho : o.op = .binOp .eql 28 X Y 28) (k V : Int) (x : Nat → Nat) (r s o' h : Bool) (m : Nat → Nat) (hx : a.eval X = .agg (ndC k V x r s o' h m)) (hy : a.eval Y = .agg (ndC k V x r s o' h m)) (hw : Region.wanted o (yielded ops a.tmps) = true) : YieldsIf Tryd.prog ops S o (.bool true) a := by
  refine .inl ⟨hw, fun w _ => ?_⟩
  obtain ⟨dst, op, type, pos, after, guard⟩ := o
  simp only at ho
  subst ho
  simp only [execOp, Sem.run_bind, Sem.run_pure, hx, hy, run_eqGuard_agg w .eql 28 _ _ _ _ Tryd.ndGuard, Result.andThen_ok, run_eql_struct, eqND]
theorem wpList_neq_nd {ops : Array Oper} {rest : List Oper} {o : Oper} {a : Act} {w : World} {Q : Exit → Act → World → Prop} (X Y : Operand) (ho : o.op = .binOp .neq 28 X Y 28) (k V : Int) (x : Nat → Nat) (r s o' h : Bool) (m : Nat → Nat) (hx : a.eval X = .agg (ndC k V x r s o' h m)) (hy : a.eval Y = .agg (ndC k V x r s o' h m))
    (hw : Region.wanted o (yielded ops a.tmps) = true) (hh : wpList Tryd.prog ops Q rest (a.put o.dst (.bool false)) w) : wpList Tryd.prog ops Q (o :: rest) a w := by
  refine wpList_step fun K hK => ?_
  rw [if_pos hw]
  have hrun : (execOp a.eval o).run Tryd.prog w = .ok (.value (.bool false)) w := by
    obtain ⟨dst, op, type, pos, after, guard⟩ := o
    simp only at ho
    subst ho
    simp only [execOp, Sem.run_bind, Sem.run_pure, hx, hy, run_eqGuard_agg w .neq 28 _ _ _ _ Tryd.ndGuard, Result.andThen_ok, run_neq_struct, eqND, Bool.not_true]
  unfold Oper.wp
  rw [hrun]
  exact hK _ _ hh
end Go.Proofs.YtijipfciimcnpaaDoor
