/-
  Layer 14: a table and the package's own table of nets, side by side; each call of the table in one form.
-/
import Derived.Test.YtdjbfhllialinaaDoorRtFu
namespace Go.Proofs.YtdjbfhllialinaaDoor
open Go.RowKit Go.Maps

structure TS (w : World) (t M : Nat) (R : List RV) (A : World) : Prop where
  tab : ∃ D, TabAt A t M D R
  bel : Below w.heap.size w A
  spe : Spe8 A
  tl : w.heap.size ≤ t
  ml : w.heap.size ≤ M
  gl : 0 < w.heap.size
theorem TS.below {w : World} {t M : Nat} {R : List RV} {A A' : World} (h : TS w t M R A) (b : Below A.heap.size A A') : TS w t M R A' := by
  obtain ⟨D, hD⟩ := h.tab
  exact { h with tab := ⟨D, hD.below b⟩, bel := bthen h.bel b, spe := h.spe.old b }
theorem TS.ch {w : World} {t M : Nat} {R R' : List RV} {A A' : World} (h : TS w t M R A) (k : Ch (fun q => q = M) A A') (ht : ∃ D, TabAt A' t M D R') : TS w t M R' A' :=
  { h with tab := ht, bel := h.bel.trans (k.below (fun q e => by have e' : q = M := e; rw [e']; exact h.ml) h.bel.size), spe := h.spe.ch k (fun e => by have e' : 0 = M := e; have := h.gl; have := h.ml; omega) }
theorem TS.new (w A : World) (hb : Below w.heap.size w A) (hs : Spe8 w) : Calls Tryd.prog 5 #[] A fun e A' => ∃ t M, e = .returned (.pointer (some ⟨t, 0, none⟩)) ∧ TS w t M [] A' ∧ A.heap.size ≤ t ∧ A.heap.size ≤ M := by
  refine (new_any A).mono ?_
  rintro e A' ⟨t, M, rfl, hT, h1, h2, b⟩
  have := hb.size
  exact ⟨t, M, rfl, ⟨⟨_, hT⟩, bthen hb b, (hs.old hb).old b, by omega, by omega, hs.lt⟩, h1, h2⟩
theorem TS.len {w : World} {t M : Nat} {R : List RV} {A : World} (h : TS w t M R A) : Calls Tryd.prog 7 #[.pointer (some ⟨t, 0, none⟩)] A fun e A' => e = .returned (.int .i64 (R.length : Nat)) ∧ A = A' := by
  obtain ⟨D, hD⟩ := h.tab
  exact len_any t M D R A hD
theorem TS.add {w : World} {t M : Nat} {R : List RV} {A : World} (h : TS w t M R A) (r : RV) (hw : r.p.Wf) (hy : ∀ i, i < 16 → r.y i < 256) (hl : R.length ≤ 100000) : Calls Tryd.prog 6 #[.pointer (some ⟨t, 0, none⟩), .agg (rtC r)] A fun e A' => e = .returned (.int .i64 (addE R r : Nat)) ∧ TS w t M (addR R r) A' ∧ Ch (fun q => q = M) A A' := by
  obtain ⟨D, hD⟩ := h.tab
  refine (add_any t M D R r A hD h.spe hw hy hl).mono ?_
  rintro e A' ⟨D', rfl, hT, k⟩
  exact ⟨rfl, h.ch k ⟨D', hT⟩, k⟩
theorem TS.drop {w : World} {t M : Nat} {R : List RV} {A : World} (h : TS w t M R A) (p : PV) (hw : p.Wf) : Calls Tryd.prog 11 #[.pointer (some ⟨t, 0, none⟩), .agg (pfC p)] A fun e A' => e = .returned (.bool (fnd R p).isSome) ∧ TS w t M (del R p) A' ∧ Ch (fun q => q = M) A A' := by
  obtain ⟨D, hD⟩ := h.tab
  refine (drop_any t M D R p A hD hw).mono ?_
  rintro e A' ⟨D', rfl, hT, k⟩
  exact ⟨rfl, h.ch k ⟨D', hT⟩, k⟩
theorem TS.find {w : World} {t M : Nat} {R : List RV} {A : World} (h : TS w t M R A) (V : Int) (x : Nat → Nat) (hv : (Lit.int .i64 V).wf = true) (hx : ∀ i, i < 16 → x i < 256) : Calls Tryd.prog 9 #[.pointer (some ⟨t, 0, none⟩), .agg (ipCells V x)] A fun e A' => e = .returned (.tuple #[.agg (rtC ((fIP R V x).getD rz)), .bool (fIP R V x).isSome]) ∧ Below A.heap.size A A' := by
  obtain ⟨D, hD⟩ := h.tab
  exact find_any t M D R V x A hD hv hx
theorem wpList_field_pf {ops : Array Oper} {rest : List Oper} {o : Oper} {a : Act} {w : World} {Q : Exit → Act → World → Prop} (x : Operand) (ho : o.op = .field 29 x 0) (r : RV) (hx : a.eval x = .agg (rtC r)) (hw : Region.wanted o (yielded ops a.tmps) = true)
    (h : wpList Tryd.prog ops Q rest (a.put o.dst (.agg (pfC r.p))) w) : wpList Tryd.prog ops Q (o :: rest) a w := by
  refine wpList_step fun K hK => ?_
  rw [if_pos hw]
  have hrun : (Instr.field 29 (.agg (rtC r)) 0).run Tryd.prog w = .ok (.agg (pfC r.p)) w := by kernel_rfl
  unfold Oper.wp execOp
  simp only [ho, Sem.run_bind, hx, hrun, Result.andThen_ok]
  exact hK _ _ h
theorem wpList_field_ip {ops : Array Oper} {rest : List Oper} {o : Oper} {a : Act} {w : World} {Q : Exit → Act → World → Prop} (x : Operand) (ho : o.op = .field 27 x 0) (p : PV) (hx : a.eval x = .agg (pfC p)) (hw : Region.wanted o (yielded ops a.tmps) = true)
    (h : wpList Tryd.prog ops Q rest (a.put o.dst (.agg (ipCells p.V p.x))) w) : wpList Tryd.prog ops Q (o :: rest) a w := by
  refine wpList_step fun K hK => ?_
  rw [if_pos hw]
  have hrun : (Instr.field 27 (.agg (pfC p)) 0).run Tryd.prog w = .ok (.agg (ipCells p.V p.x)) w := by kernel_rfl
  unfold Oper.wp execOp
  simp only [ho, Sem.run_bind, hx, hrun, Result.andThen_ok]
  exact hK _ _ h
theorem Tryd.rtGuard : Tryd.prog.eqGuardType Tryd.prog.depth 29 = false := by kernel_rfl
theorem wpList_eql_rt {ops : Array Oper} {rest : List Oper} {o : Oper} {a : Act} {w : World} {Q : Exit → Act → World → Prop} (X Y : Operand) (ho : o.op = .binOp .eql 29 X Y 29) (r s : RV) (hx : a.eval X = .agg (rtC r)) (hy : a.eval Y = .agg (rtC s)) (b : Bool) (hbb : eqR r s = b) (hw : Region.wanted o (yielded ops a.tmps) = true)
    (h : wpList Tryd.prog ops Q rest (a.put o.dst (.bool b)) w) : wpList Tryd.prog ops Q (o :: rest) a w := by
  refine wpList_step fun K hK => ?_
  rw [if_pos hw]
  have hrun : (execOp a.eval o).run Tryd.prog w = .ok (.value (.bool b)) w := by
    subst hbb
    obtain ⟨dst, op, type, pos, after, guard⟩ := o
    simp only at ho
    subst ho
    simp only [execOp, Sem.run_bind, Sem.run_pure, hx, hy, run_eqGuard_agg w .eql 29 _ _ _ _ Tryd.rtGuard, Result.andThen_ok, run_eql_struct, eqRt r s w 9995]
  unfold Oper.wp
  rw [hrun]
  exact hK _ _ h
theorem wpList_neq_rt {ops : Array Oper} {rest : List Oper} {o : Oper} {a : Act} {w : World} {Q : Exit → Act → World → Prop} (X Y : Operand) (ho : o.op = .binOp .neq 29 X Y 29) (r s : RV) (hx : a.eval X = .agg (rtC r)) (hy : a.eval Y = .agg (rtC s)) (b : Bool) (hbb : (!(eqR r s)) = b) (hw : Region.wanted o (yielded ops a.tmps) = true)
    (h : wpList Tryd.prog ops Q rest (a.put o.dst (.bool b)) w) : wpList Tryd.prog ops Q (o :: rest) a w := by
  refine wpList_step fun K hK => ?_
  rw [if_pos hw]
  have hrun : (execOp a.eval o).run Tryd.prog w = .ok (.value (.bool b)) w := by
    subst hbb
    obtain ⟨dst, op, type, pos, after, guard⟩ := o
    simp only at ho
    subst ho
    simp only [execOp, Sem.run_bind, Sem.run_pure, hx, hy, run_eqGuard_agg w .neq 29 _ _ _ _ Tryd.rtGuard, Result.andThen_ok, run_neq_struct, eqRt r s w 9995]
  unfold Oper.wp
  rw [hrun]
  exact hK _ _ h
theorem eqR_refl (r : RV) : eqR r r = true := by
  unfold eqR
  rw [eqP_refl, (same16_iff r.y r.y).2 (fun _ _ => rfl)]
  simp
theorem add_fu (i : Nat) (hi : i < 256) : addE ((List.range i).map fuR) (fuR i) = 0 ∧ addR ((List.range i).map fuR) (fuR i) = (List.range (i + 1)).map fuR := by
  have e : addE ((List.range i).map fuR) (fuR i) = 0 := by
    unfold addE
    rw [if_pos (fu_chk i (by omega)), fnd_fu, if_neg (show ¬ i < i by omega), if_neg (by simp), if_neg (by simp; omega)]
  refine ⟨e, ?_⟩
  unfold addR
  rw [if_pos e, List.range_succ, List.map_append]
  rfl
end Go.Proofs.YtdjbfhllialinaaDoor
