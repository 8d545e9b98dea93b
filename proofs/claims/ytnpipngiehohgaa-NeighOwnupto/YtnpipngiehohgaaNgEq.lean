/-
  Layer 15: neighbours and asks held against themselves.
-/
import Derived.Test.YtnpipngiehohgaaNgInv
namespace Go.Proofs.Ytnpipngiehohgaa
open Go.RowKit

theorem same6_self (x : Nat → Nat) : same6 x x = true := by simp [same6]
theorem same16_self (x : Nat → Nat) : same16 x x = true := (same16_iff x x).2 (fun _ _ => rfl)
theorem Try.nbrFields : Try.prog.underlying 48 = some (.struct (Try.prog.fieldsOf 48)) := by kernel_rfl
theorem Try.nbrStood : Try.prog.stoodInHeld 48 = false := by kernel_rfl
theorem Try.nbrGuard : Try.prog.eqGuardType Try.prog.depth 48 = false := by kernel_rfl
theorem nbr_part0 (e : NB) (w : World) : (part 3 (nbC e) 0).run Try.prog w = .ok (.int .i64 e.k.pt) w := by kernel_rfl
theorem nbr_part1 (e : NB) (w : World) : (part 31 (nbC e) 1).run Try.prog w = .ok (.agg (ipCells e.k.V e.k.x)) w := by kernel_rfl
theorem nbr_part18 (e : NB) (w : World) : (part 33 (nbC e) 18).run Try.prog w = .ok (.agg (macC e.m)) w := by kernel_rfl
theorem nbr_part24 (e : NB) (w : World) : (part 3 (nbC e) 24).run Try.prog w = .ok (.int .i64 e.st) w := by kernel_rfl
theorem nbr_part25 (e : NB) (w : World) : (part 3 (nbC e) 25).run Try.prog w = .ok (.int .i64 e.ag) w := by kernel_rfl
theorem nbr_part26 (e : NB) (w : World) : (part 3 (nbC e) 26).run Try.prog w = .ok (.int .i64 e.tr) w := by kernel_rfl
theorem nbr_part27 (e : NB) (w : World) : (part 3 (nbC e) 27).run Try.prog w = .ok (.int .i64 e.wt) w := by kernel_rfl
set_option maxHeartbeats 1600000 in
set_option maxRecDepth 100000 in
theorem eq_nbr (e : NB) (w : World) : (Op.equalIn 10000 48 (.agg (nbC e)) (.agg (nbC e))).run Try.prog w = .ok true w := by
  rw [show (10000 : Nat) = 9999 + 1 from rfl, run_equalIn_struct w 9999 48 _ _ Try.nbrFields Try.nbrStood]
  rw [show (Try.prog.fieldsOf 48).toList = [{ name := "Port", type := 3, offset := 0, embedded := false, tag := "", pkgPath := "", byteOffset := 0 }, { name := "IP", type := 31, offset := 1, embedded := false, tag := "", pkgPath := "", byteOffset := 8 }, { name := "Mac", type := 33, offset := 18, embedded := false, tag := "", pkgPath := "", byteOffset := 32 }, { name := "State", type := 3, offset := 24, embedded := false, tag := "", pkgPath := "", byteOffset := 40 }, { name := "Age", type := 3, offset := 25, embedded := false, tag := "", pkgPath := "", byteOffset := 48 }, { name := "Tries", type := 3, offset := 26, embedded := false, tag := "", pkgPath := "", byteOffset := 56 }, { name := "Waiting", type := 3, offset := 27, embedded := false, tag := "", pkgPath := "", byteOffset := 64 }] from by kernel_rfl]
  have ii : ∀ k : Int, (Op.equalIn 9999 3 (.int .i64 k) (.int .i64 k)).run Try.prog w = .ok true w := fun k => by
    rw [show (9999 : Nat) = 9998 + 1 from rfl, run_equalIn_int w 9998 3 .i64 .i64 k k Try.underlying3, beq_self_eq_true]
  have ip : (Op.equalIn 9999 31 (.agg (ipCells e.k.V e.k.x)) (.agg (ipCells e.k.V e.k.x))).run Try.prog w = .ok true w := by
    rw [eqIP e.k.V e.k.V e.k.x e.k.x w 9996, same16_self, beq_self_eq_true]; rfl
  have im : (Op.equalIn 9999 33 (.agg (macC e.m)) (.agg (macC e.m))).run Try.prog w = .ok true w := by
    rw [eq6 e.m e.m w 9997, same6_self]
  simp [Op.eqFields, Sem.run_bind, Sem.run_ite, nbr_part0, nbr_part1, nbr_part18, nbr_part24, nbr_part25, nbr_part26, nbr_part27, ii, ip, im]
theorem wpList_neq_nbr {ops : Array Oper} {rest : List Oper} {o : Oper} {a : Act} {w : World} {Q : Exit → Act → World → Prop} (X Y : Operand) (ho : o.op = .binOp .neq 48 X Y 48) (e : NB) (hx : a.eval X = .agg (nbC e)) (hy : a.eval Y = .agg (nbC e))
    (hw : Region.wanted o (yielded ops a.tmps) = true) (hh : wpList Try.prog ops Q rest (a.put o.dst (.bool false)) w) : wpList Try.prog ops Q (o :: rest) a w := by
  refine wpList_step fun K hK => ?_
  rw [if_pos hw]
  have hrun : (execOp a.eval o).run Try.prog w = .ok (.value (.bool false)) w := by
    obtain ⟨dst, op, type, pos, after, guard⟩ := o
    simp only at ho
    subst ho
    simp only [execOp, Sem.run_bind, Sem.run_pure, hx, hy, run_eqGuard_agg w .neq 48 _ _ _ _ Try.nbrGuard, Result.andThen_ok, run_neq_struct, eq_nbr, Bool.not_true]
  unfold Oper.wp
  rw [hrun]
  exact hK _ _ hh
theorem yields_neq_nbr {ops : Array Oper} {o : Oper} {a : Act} {S : World → Prop} (X Y : Operand) (ho : o.op = .binOp .neq 48 X Y 48) (e : NB) (hx : a.eval X = .agg (nbC e)) (hy : a.eval Y = .agg (nbC e)) (hw : Region.wanted o (yielded ops a.tmps) = true) : YieldsIf Try.prog ops S o (.bool false) a := by
  refine .inl ⟨hw, fun w _ => ?_⟩
  obtain ⟨dst, op, type, pos, after, guard⟩ := o
  simp only at ho
  subst ho
  simp only [execOp, Sem.run_bind, Sem.run_pure, hx, hy, run_eqGuard_agg w .neq 48 _ _ _ _ Try.nbrGuard, Result.andThen_ok, run_neq_struct, eq_nbr, Bool.not_true]
theorem wpList_eql_nbr {ops : Array Oper} {rest : List Oper} {o : Oper} {a : Act} {w : World} {Q : Exit → Act → World → Prop} (X Y : Operand) (ho : o.op = .binOp .eql 48 X Y 48) (e : NB) (hx : a.eval X = .agg (nbC e)) (hy : a.eval Y = .agg (nbC e))
    (hw : Region.wanted o (yielded ops a.tmps) = true) (hh : wpList Try.prog ops Q rest (a.put o.dst (.bool true)) w) : wpList Try.prog ops Q (o :: rest) a w := by
  refine wpList_step fun K hK => ?_
  rw [if_pos hw]
  have hrun : (execOp a.eval o).run Try.prog w = .ok (.value (.bool true)) w := by
    obtain ⟨dst, op, type, pos, after, guard⟩ := o
    simp only at ho
    subst ho
    simp only [execOp, Sem.run_bind, Sem.run_pure, hx, hy, run_eqGuard_agg w .eql 48 _ _ _ _ Try.nbrGuard, Result.andThen_ok, run_eql_struct, eq_nbr]
  unfold Oper.wp
  rw [hrun]
  exact hK _ _ hh
theorem yields_eql_nbr {ops : Array Oper} {o : Oper} {a : Act} {S : World → Prop} (X Y : Operand) (ho : o.op = .binOp .eql 48 X Y 48) (e : NB) (hx : a.eval X = .agg (nbC e)) (hy : a.eval Y = .agg (nbC e)) (hw : Region.wanted o (yielded ops a.tmps) = true) : YieldsIf Try.prog ops S o (.bool true) a := by
  refine .inl ⟨hw, fun w _ => ?_⟩
  obtain ⟨dst, op, type, pos, after, guard⟩ := o
  simp only at ho
  subst ho
  simp only [execOp, Sem.run_bind, Sem.run_pure, hx, hy, run_eqGuard_agg w .eql 48 _ _ _ _ Try.nbrGuard, Result.andThen_ok, run_eql_struct, eq_nbr]
theorem Try.askFields : Try.prog.underlying 114 = some (.struct (Try.prog.fieldsOf 114)) := by kernel_rfl
theorem Try.askStood : Try.prog.stoodInHeld 114 = false := by kernel_rfl
theorem Try.askGuard : Try.prog.eqGuardType Try.prog.depth 114 = false := by kernel_rfl
theorem ask_part0 (e : AK) (w : World) : (part 3 (akC e) 0).run Try.prog w = .ok (.int .i64 e.k.pt) w := by kernel_rfl
theorem ask_part1 (e : AK) (w : World) : (part 31 (akC e) 1).run Try.prog w = .ok (.agg (ipCells e.k.V e.k.x)) w := by kernel_rfl
theorem ask_part18 (e : AK) (w : World) : (part 33 (akC e) 18).run Try.prog w = .ok (.agg (macC e.m)) w := by kernel_rfl
theorem ask_part24 (e : AK) (w : World) : (part 3 (akC e) 24).run Try.prog w = .ok (.int .i64 e.ty) w := by kernel_rfl
set_option maxHeartbeats 1600000 in
set_option maxRecDepth 100000 in
theorem eq_ask (e : AK) (w : World) : (Op.equalIn 10000 114 (.agg (akC e)) (.agg (akC e))).run Try.prog w = .ok true w := by
  rw [show (10000 : Nat) = 9999 + 1 from rfl, run_equalIn_struct w 9999 114 _ _ Try.askFields Try.askStood]
  rw [show (Try.prog.fieldsOf 114).toList = [{ name := "Port", type := 3, offset := 0, embedded := false, tag := "", pkgPath := "", byteOffset := 0 }, { name := "IP", type := 31, offset := 1, embedded := false, tag := "", pkgPath := "", byteOffset := 8 }, { name := "Mac", type := 33, offset := 18, embedded := false, tag := "", pkgPath := "", byteOffset := 32 }, { name := "Try", type := 3, offset := 24, embedded := false, tag := "", pkgPath := "", byteOffset := 40 }] from by kernel_rfl]
  have ii : ∀ k : Int, (Op.equalIn 9999 3 (.int .i64 k) (.int .i64 k)).run Try.prog w = .ok true w := fun k => by
    rw [show (9999 : Nat) = 9998 + 1 from rfl, run_equalIn_int w 9998 3 .i64 .i64 k k Try.underlying3, beq_self_eq_true]
  have ip : (Op.equalIn 9999 31 (.agg (ipCells e.k.V e.k.x)) (.agg (ipCells e.k.V e.k.x))).run Try.prog w = .ok true w := by
    rw [eqIP e.k.V e.k.V e.k.x e.k.x w 9996, same16_self, beq_self_eq_true]; rfl
  have im : (Op.equalIn 9999 33 (.agg (macC e.m)) (.agg (macC e.m))).run Try.prog w = .ok true w := by
    rw [eq6 e.m e.m w 9997, same6_self]
  simp [Op.eqFields, Sem.run_bind, Sem.run_ite, ask_part0, ask_part1, ask_part18, ask_part24, ii, ip, im]
theorem wpList_neq_ask {ops : Array Oper} {rest : List Oper} {o : Oper} {a : Act} {w : World} {Q : Exit → Act → World → Prop} (X Y : Operand) (ho : o.op = .binOp .neq 114 X Y 114) (e : AK) (hx : a.eval X = .agg (akC e)) (hy : a.eval Y = .agg (akC e))
    (hw : Region.wanted o (yielded ops a.tmps) = true) (hh : wpList Try.prog ops Q rest (a.put o.dst (.bool false)) w) : wpList Try.prog ops Q (o :: rest) a w := by
  refine wpList_step fun K hK => ?_
  rw [if_pos hw]
  have hrun : (execOp a.eval o).run Try.prog w = .ok (.value (.bool false)) w := by
    obtain ⟨dst, op, type, pos, after, guard⟩ := o
    simp only at ho
    subst ho
    simp only [execOp, Sem.run_bind, Sem.run_pure, hx, hy, run_eqGuard_agg w .neq 114 _ _ _ _ Try.askGuard, Result.andThen_ok, run_neq_struct, eq_ask, Bool.not_true]
  unfold Oper.wp
  rw [hrun]
  exact hK _ _ hh
theorem yields_neq_ask {ops : Array Oper} {o : Oper} {a : Act} {S : World → Prop} (X Y : Operand) (ho : o.op = .binOp .neq 114 X Y 114) (e : AK) (hx : a.eval X = .agg (akC e)) (hy : a.eval Y = .agg (akC e)) (hw : Region.wanted o (yielded ops a.tmps) = true) : YieldsIf Try.prog ops S o (.bool false) a := by
  refine .inl ⟨hw, fun w _ => ?_⟩
  obtain ⟨dst, op, type, pos, after, guard⟩ := o
  simp only at ho
  subst ho
  simp only [execOp, Sem.run_bind, Sem.run_pure, hx, hy, run_eqGuard_agg w .neq 114 _ _ _ _ Try.askGuard, Result.andThen_ok, run_neq_struct, eq_ask, Bool.not_true]
theorem wpList_eql_ask {ops : Array Oper} {rest : List Oper} {o : Oper} {a : Act} {w : World} {Q : Exit → Act → World → Prop} (X Y : Operand) (ho : o.op = .binOp .eql 114 X Y 114) (e : AK) (hx : a.eval X = .agg (akC e)) (hy : a.eval Y = .agg (akC e))
    (hw : Region.wanted o (yielded ops a.tmps) = true) (hh : wpList Try.prog ops Q rest (a.put o.dst (.bool true)) w) : wpList Try.prog ops Q (o :: rest) a w := by
  refine wpList_step fun K hK => ?_
  rw [if_pos hw]
  have hrun : (execOp a.eval o).run Try.prog w = .ok (.value (.bool true)) w := by
    obtain ⟨dst, op, type, pos, after, guard⟩ := o
    simp only at ho
    subst ho
    simp only [execOp, Sem.run_bind, Sem.run_pure, hx, hy, run_eqGuard_agg w .eql 114 _ _ _ _ Try.askGuard, Result.andThen_ok, run_eql_struct, eq_ask]
  unfold Oper.wp
  rw [hrun]
  exact hK _ _ hh
theorem yields_eql_ask {ops : Array Oper} {o : Oper} {a : Act} {S : World → Prop} (X Y : Operand) (ho : o.op = .binOp .eql 114 X Y 114) (e : AK) (hx : a.eval X = .agg (akC e)) (hy : a.eval Y = .agg (akC e)) (hw : Region.wanted o (yielded ops a.tmps) = true) : YieldsIf Try.prog ops S o (.bool true) a := by
  refine .inl ⟨hw, fun w _ => ?_⟩
  obtain ⟨dst, op, type, pos, after, guard⟩ := o
  simp only at ho
  subst ho
  simp only [execOp, Sem.run_bind, Sem.run_pure, hx, hy, run_eqGuard_agg w .eql 114 _ _ _ _ Try.askGuard, Result.andThen_ok, run_eql_struct, eq_ask]
theorem wpList_eql_mac {ops : Array Oper} {rest : List Oper} {o : Oper} {a : Act} {w : World} {Q : Exit → Act → World → Prop} (X Y : Operand) (ho : o.op = .binOp .eql 33 X Y 33) (x y : Nat → Nat) (hx : a.eval X = .agg (macC x)) (hy : a.eval Y = .agg (macC y)) (b : Bool) (hb : same6 x y = b)
    (hw : Region.wanted o (yielded ops a.tmps) = true) (h : wpList Try.prog ops Q rest (a.put o.dst (.bool b)) w) : wpList Try.prog ops Q (o :: rest) a w := by
  refine wpList_step fun K hK => ?_
  rw [if_pos hw]
  have hrun : (execOp a.eval o).run Try.prog w = .ok (.value (.bool b)) w := by
    subst hb
    obtain ⟨dst, op, type, pos, after, guard⟩ := o
    simp only at ho
    subst ho
    simp only [execOp, Sem.run_bind, Sem.run_pure, hx, hy, run_eqGuard_agg w .eql 33 _ _ _ _ Try.macGuard, Result.andThen_ok, run_eql_struct, eq6top]
  unfold Oper.wp
  rw [hrun]
  exact hK _ _ h
end Go.Proofs.Ytnpipngiehohgaa
