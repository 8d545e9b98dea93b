/-
  Layer 17: tuples held against one another; awaiting; begin.
-/
import Derived.Test.YtclpeepnngegaaaDoorFlFn4
namespace Go.Proofs.YtclpeepnngegaaaDoor
open Go.RowKit Go.Maps

theorem tu_part0 (x : TU) (w : World) : (part 3 (tuC x) 0).run Tryd.prog w = .ok (.int .i64 x.pr) w := by kernel_rfl
theorem tu_part1 (x : TU) (w : World) : (part 24 (tuC x) 1).run Tryd.prog w = .ok (.agg (ipCells x.sV x.s)) w := by kernel_rfl
theorem tu_part2 (x : TU) (w : World) : (part 24 (tuC x) 18).run Tryd.prog w = .ok (.agg (ipCells x.dV x.d)) w := by kernel_rfl
theorem tu_part3 (x : TU) (w : World) : (part 3 (tuC x) 35).run Tryd.prog w = .ok (.int .i64 x.sp) w := by kernel_rfl
theorem tu_part4 (x : TU) (w : World) : (part 3 (tuC x) 36).run Tryd.prog w = .ok (.int .i64 x.dp) w := by kernel_rfl
theorem Tryd.tuFields : Tryd.prog.underlying 34 = some (.struct (Tryd.prog.fieldsOf 34)) := by kernel_rfl
theorem Tryd.tuStood : Tryd.prog.stoodInHeld 34 = false := by kernel_rfl
set_option maxHeartbeats 1600000 in
set_option maxRecDepth 100000 in
theorem eqTu (x y : TU) (w : World) (d : Nat) : (Op.equalIn (d + 5) 34 (.agg (tuC x)) (.agg (tuC y))).run Tryd.prog w = .ok (eqP x y) w := by
  rw [show (d + 5 : Nat) = (d + 4) + 1 from rfl, run_equalIn_struct w (d + 4) 34 _ _ Tryd.tuFields Tryd.tuStood]
  rw [show (Tryd.prog.fieldsOf 34).toList = [{ name := "Proto", type := 3, offset := 0, embedded := false, tag := "", pkgPath := "", byteOffset := 0 }, { name := "Src", type := 24, offset := 1, embedded := false, tag := "", pkgPath := "", byteOffset := 8 }, { name := "Dst", type := 24, offset := 18, embedded := false, tag := "", pkgPath := "", byteOffset := 32 }, { name := "Sport", type := 3, offset := 35, embedded := false, tag := "", pkgPath := "", byteOffset := 56 }, { name := "Dport", type := 3, offset := 36, embedded := false, tag := "", pkgPath := "", byteOffset := 64 }] from by kernel_rfl]
  simp only [Op.eqFields, Sem.run_bind, Sem.run_ite]
  rw [if_pos (by decide)]
  simp only [tu_part0, Result.andThen_ok]
  rw [show (d + 4 : Nat) = (d + 3) + 1 from rfl, run_equalIn_int w (d + 3) 3 .i64 .i64 x.pr y.pr Tryd.underlying3]
  unfold eqP
  cases h : x.pr == y.pr
  · simp
  · simp only [Result.andThen_ok, Bool.not_true, Bool.false_eq_true, if_false, tu_part1]
    rw [if_pos (by decide), show (d + 3 + 1 : Nat) = (d + 1) + 3 from rfl]
    simp only [eqIP, Result.andThen_ok]
    cases h2 : (x.sV == y.sV && same16 x.s y.s)
    · simp
    · simp only [Bool.not_true, Bool.false_eq_true, if_false, tu_part2, Result.andThen_ok]
      rw [if_pos (by decide)]
      simp only [eqIP, Result.andThen_ok]
      cases h3 : (x.dV == y.dV && same16 x.d y.d)
      · simp
      · simp only [Bool.not_true, Bool.false_eq_true, if_false, tu_part3, Result.andThen_ok]
        rw [if_pos (by decide), show (d + 1 + 3 : Nat) = (d + 3) + 1 from rfl, run_equalIn_int w (d + 3) 3 .i64 .i64 x.sp y.sp Tryd.underlying3]
        cases h4 : x.sp == y.sp
        · simp
        · simp only [Result.andThen_ok, Bool.not_true, Bool.false_eq_true, if_false, tu_part4]
          rw [if_pos (by decide), run_equalIn_int w (d + 3) 3 .i64 .i64 x.dp y.dp Tryd.underlying3]
          cases h5 : x.dp == y.dp <;> simp
theorem eqTutop (x y : TU) (w : World) : (Op.equalIn 10000 34 (.agg (tuC x)) (.agg (tuC y))).run Tryd.prog w = .ok (eqP x y) w := eqTu x y w 9995
theorem Tryd.tuGuard : Tryd.prog.eqGuardType Tryd.prog.depth 34 = false := by kernel_rfl
theorem yields_eql_tu {ops : Array Oper} {o : Oper} {a : Act} {S : World → Prop} (X Y : Operand) (ho : o.op = .binOp .eql 34 X Y 34) (x y : TU) (hx : a.eval X = .agg (tuC x)) (hy : a.eval Y = .agg (tuC y)) (b : Bool) (hb : (eqP x y) = b) (hw : Region.wanted o (yielded ops a.tmps) = true) : YieldsIf Tryd.prog ops S o (.bool b) a := by
  refine .inl ⟨hw, fun w _ => ?_⟩
  subst hb
  obtain ⟨dst, op, type, pos, after, guard⟩ := o
  simp only at ho
  subst ho
  simp only [execOp, Sem.run_bind, Sem.run_pure, hx, hy, run_eqGuard_agg w .eql 34 _ _ _ _ Tryd.tuGuard, Result.andThen_ok, run_eql_struct, eqTutop]
theorem wpList_eql_tu {ops : Array Oper} {rest : List Oper} {o : Oper} {a : Act} {w : World} {Q : Exit → Act → World → Prop} (X Y : Operand) (ho : o.op = .binOp .eql 34 X Y 34) (x y : TU) (hx : a.eval X = .agg (tuC x)) (hy : a.eval Y = .agg (tuC y)) (b : Bool) (hb : (eqP x y) = b) (hw : Region.wanted o (yielded ops a.tmps) = true)
    (h : wpList Tryd.prog ops Q rest (a.put o.dst (.bool b)) w) : wpList Tryd.prog ops Q (o :: rest) a w := by
  refine wpList_step fun K hK => ?_
  rw [if_pos hw]
  have hrun : (execOp a.eval o).run Tryd.prog w = .ok (.value (.bool b)) w := by
    subst hb
    obtain ⟨dst, op, type, pos, after, guard⟩ := o
    simp only at ho
    subst ho
    simp only [execOp, Sem.run_bind, Sem.run_pure, hx, hy, run_eqGuard_agg w .eql 34 _ _ _ _ Tryd.tuGuard, Result.andThen_ok, run_eql_struct, eqTutop]
  unfold Oper.wp
  rw [hrun]
  exact hK _ _ h
theorem yields_neq_tu {ops : Array Oper} {o : Oper} {a : Act} {S : World → Prop} (X Y : Operand) (ho : o.op = .binOp .neq 34 X Y 34) (x y : TU) (hx : a.eval X = .agg (tuC x)) (hy : a.eval Y = .agg (tuC y)) (b : Bool) (hb : (!eqP x y) = b) (hw : Region.wanted o (yielded ops a.tmps) = true) : YieldsIf Tryd.prog ops S o (.bool b) a := by
  refine .inl ⟨hw, fun w _ => ?_⟩
  subst hb
  obtain ⟨dst, op, type, pos, after, guard⟩ := o
  simp only at ho
  subst ho
  simp only [execOp, Sem.run_bind, Sem.run_pure, hx, hy, run_eqGuard_agg w .neq 34 _ _ _ _ Tryd.tuGuard, Result.andThen_ok, run_neq_struct, eqTutop]
theorem wpList_neq_tu {ops : Array Oper} {rest : List Oper} {o : Oper} {a : Act} {w : World} {Q : Exit → Act → World → Prop} (X Y : Operand) (ho : o.op = .binOp .neq 34 X Y 34) (x y : TU) (hx : a.eval X = .agg (tuC x)) (hy : a.eval Y = .agg (tuC y)) (b : Bool) (hb : (!eqP x y) = b) (hw : Region.wanted o (yielded ops a.tmps) = true)
    (h : wpList Tryd.prog ops Q rest (a.put o.dst (.bool b)) w) : wpList Tryd.prog ops Q (o :: rest) a w := by
  refine wpList_step fun K hK => ?_
  rw [if_pos hw]
  have hrun : (execOp a.eval o).run Tryd.prog w = .ok (.value (.bool b)) w := by
    subst hb
    obtain ⟨dst, op, type, pos, after, guard⟩ := o
    simp only at ho
    subst ho
    simp only [execOp, Sem.run_bind, Sem.run_pure, hx, hy, run_eqGuard_agg w .neq 34 _ _ _ _ Tryd.tuGuard, Result.andThen_ok, run_neq_struct, eqTutop]
  unfold Oper.wp
  rw [hrun]
  exact hK _ _ h
/-- the flow for which a packet comes in -/
def awO (c : CF) (E : List FV) (x : TU) : Option FV := if x.dV == 6 then fF E x.rev else (fQ E ⟨x.pr, x.dp⟩).bind (fun f => if eqP (ouT c f.n) x.rev then some f else none)
set_option maxHeartbeats 1600000 in
set_option maxRecDepth 100000 in
theorem awaiting_any (t M N : Nat) (c : CF) (E : List FV) (w : World) (h : TA w t M N c E) (x : TU) (hx : x.Wf) : Calls Tryd.prog 29 #[.pointer (some ⟨t, 0, none⟩), .agg (tuC x)] w fun r w' => r = .returned (ptF (awO c E x)) ∧ Below w.heap.size w w' := by
  have HXW : Hid x.Wf := hx
  have HH : Hid (TA w t M N c E) := h
  clear hx h
  have hb := tup_new w x
  have bel : Below w.heap.size w (w.alloc (.cells (tuC x) 34)) := (Below.refl _ _).alloc (Nat.le_refl _) _
  obtain ⟨CX, hC⟩ : ∃ C, C = tuC x := ⟨_, rfl⟩
  obtain ⟨W, hW⟩ : ∃ W, W = w.alloc (.cells (tuC x) 34) := ⟨_, rfl⟩
  rw [← hW] at hb bel
  have HSZX : Hid (W.heap.size = w.heap.size + 1) := by show _ = _; rw [hW, World.size_alloc]
  obtain ⟨B, hB⟩ : ∃ B, B = w.heap.size := ⟨_, rfl⟩
  rw [← hB] at hb
  have HBX : Hid (TupAt W B x) := hb
  rw [← hC] at hW ⊢
  have HOX : Hid (w.heap.size = B) := hB.symm
  have HLX : Hid (Below w.heap.size w W) := bel
  have HWX : Hid (w.alloc (.cells CX 34) = W) := hW.symm
  clear hb hW hB hC bel
  have QR : Hid _ := reverse_any x W
  obtain ⟨y, hy⟩ : ∃ y, x.rev = y := ⟨_, rfl⟩
  rw [hy] at QR
  have HY : Hid (x.rev = y) := hy
  clear hy
  have HT : Hid (TA W t M N c E) := HH.out.below HLX.out
  go_enter Tryd.func29, Tryd.ntmps29
  go_upto_region 1 with fail
  rw [HOX.out, HWX.out]
  go_wp2_with (first | (refine wpList_load_tup (.tmp 3) rfl B x rfl HBX.out rfl ?_))
  refine Calls.mono QR.out ?_
  rintro e w1 ⟨rfl, b1⟩
  have H1 : Hid (TA w1 t M N c E ∧ Below w.heap.size w w1) := ⟨HT.out.below b1, bthen HLX.out b1⟩
  clear b1 QR
  obtain ⟨Y, hY⟩ : ∃ Y, Y = w1.alloc (.cells (tuC xz) 34) := ⟨_, rfl⟩
  have bY : Below w1.heap.size w1 Y := by rw [hY]; exact (Below.refl _ _).alloc (Nat.le_refl _) _
  obtain ⟨O, hO⟩ : ∃ O, O = w1.heap.size := ⟨_, rfl⟩
  have HNY : Hid (TupAt Y O xz) := by show TupAt Y O xz; rw [hY, hO]; exact tup_new w1 xz
  have HLY : Hid (Below w1.heap.size w1 Y) := bY
  have HEY : Hid (w1.alloc (.cells (tuC xz) 34) = Y) := hY.symm
  have HOY : Hid (w1.heap.size = O) := hO.symm
  clear hY bY hO
  go_wp2_with (first | (refine wpList_alloc_tup rfl rfl ?_; rw [HEY.out, HOY.out]) | (refine wpList_store_tup (.tmp 5) (.tmp 8) rfl rfl O xz y rfl rfl HNY.out rfl ?_))
  intro w2 h2 k2
  have H2 : Hid (TA w2 t M N c E ∧ TupAt w2 O y ∧ Below w.heap.size w w2) := by
    have b2 : Below w1.heap.size w1 w2 := HLY.out.trans (k2.below (fun q hq => by have hq' : q = O := hq; have := HOY.out; omega) HLY.out.size)
    exact ⟨H1.out.1.below b2, h2, bthen H1.out.2 b2⟩
  have c1 := h2.c1
  clear h2 k2
  have HYV : Hid (y.Wf ∧ y.sV = x.dV ∧ y.pr = x.pr ∧ y.sp = x.dp) := by rw [← HY.out]; exact ⟨HXW.out.rev, rfl, rfl, rfl⟩
  obtain ⟨b6, hb6⟩ : ∃ b, (y.sV == 6) = b := ⟨_, rfl⟩
  have HB6 : Hid ((y.sV == 6) = b6) := hb6
  cases b6 with
  | true =>
    obtain ⟨v, hv⟩ : ∃ v, ptF (fF E y) = v := ⟨_, rfl⟩
    have HV : Hid (ptF (fF E y) = v ∧ ptF (awO c E x) = v) := ⟨hv, by unfold awO; rw [← HYV.out.2.1, HB6.out, HY.out]; exact hv⟩
    clear hv
    go_upto_region 3 with fail
    clear c1 hb6
    refine MixH.start (fun A => TA A t M N c E ∧ TupAt A O y) (by kernel_rfl) ?_
    obtain ⟨wA, hwA⟩ : ∃ wA, wA = w2.drew := ⟨_, rfl⟩
    have bdr : Below w2.heap.size w2 wA := by rw [hwA]; exact (Below.refl _ _).drew
    have hS : TA wA t M N c E ∧ TupAt wA O y := ⟨H2.out.1.below bdr, H2.out.2.1.below bdr⟩
    have HA : Hid (Below w.heap.size w wA) := bthen H2.out.2.2 bdr
    rw [← hwA]
    clear hwA bdr
    refine MixH.takes [true, true, true] 4 (by kernel_rfl) (by kernel_rfl) (by decide) (by kernel_rfl) hS (fun K hK => ?_)
    simp only [Mix.pick]
    repeat (go_big_quiet_step (fail))
    refine wpQuiet_nil (hK _ ?_)
    clear hK K
    refine MixH.take 3 3 _ (.map (some M)) rfl (by kernel_rfl) (by kernel_rfl) (by kernel_rfl) (by kernel_rfl) (yields_map (.tmp 15) rfl ⟨t, 25, none⟩ (.map (some M)) rfl rfl (fun A hA => TblAt.mp hA.1.cb)) hS (fun a' ha => ?_)
    simp only [Act.put, List.setIfInBounds_toArray, List.set_cons_succ, List.set_cons_zero] at ha
    subst ha
    refine MixH.take 2 4 _ (.agg (tuC y)) rfl (by kernel_rfl) (by kernel_rfl) (by kernel_rfl) (by kernel_rfl) (yields_tup (.tmp 5) rfl O 0 y rfl rfl (fun A hA => hA.2.all)) hS (fun a' ha => ?_)
    simp only [Act.put, List.setIfInBounds_toArray, List.set_cons_succ, List.set_cons_zero] at ha
    subst ha
    refine MixH.take 1 5 _ (v) rfl (by kernel_rfl) (by kernel_rfl) (by kernel_rfl) (by kernel_rfl) (yields_look (.tmp 16) (.tmp 17) rfl t M N c E y HYV.out.1 rfl rfl v HV.out.1 rfl (fun A hA => hA.1)) hS (fun a' ha => ?_)
    simp only [Act.put, List.setIfInBounds_toArray, List.set_cons_succ, List.set_cons_zero] at ha
    subst ha
    refine MixH.takes [false, false, false, false, false, false, true] 0 (by kernel_rfl) (by kernel_rfl) (by decide) (by kernel_rfl) hS (fun K hK => ?_)
    simp only [Mix.pick]
    repeat (go_big_quiet_step (fail))
    refine wpQuiet_nil (hK _ ?_)
    clear hK K
    refine MixH.done (by kernel_rfl) ?_
    clear hS
    go_wp2_with fail
    go_ret
    exact ⟨by rw [HV.out.2]; rfl, HA.out⟩
  | false =>
    obtain ⟨v, hv⟩ : ∃ v, ptF (fQ E ⟨y.pr, y.sp⟩) = v := ⟨_, rfl⟩
    have HV : Hid (ptF (fQ E ⟨y.pr, y.sp⟩) = v) := hv
    have HAW : Hid (awO c E x = (fQ E ⟨y.pr, y.sp⟩).bind (fun f => if eqP (ouT c f.n) y then some f else none)) := by show _ = _; unfold awO; rw [← HYV.out.2.1, HB6.out, HY.out, HYV.out.2.2.1, HYV.out.2.2.2]; rfl
    clear hv
    go_upto_region 4 with fail
    clear c1 hb6
    go_cut [6] (fun u wx => u = v ∧ Hid (TA wx t M N c E ∧ TupAt wx O y ∧ Below w.heap.size w wx))
    case first =>
      refine MixH.start (fun A => TA A t M N c E ∧ TupAt A O y) (by kernel_rfl) ?_
      obtain ⟨wA, hwA⟩ : ∃ wA, wA = w2.drew := ⟨_, rfl⟩
      have bdr : Below w2.heap.size w2 wA := by rw [hwA]; exact (Below.refl _ _).drew
      have hS : TA wA t M N c E ∧ TupAt wA O y := ⟨H2.out.1.below bdr, H2.out.2.1.below bdr⟩
      have HA : Hid (Below w.heap.size w wA) := bthen H2.out.2.2 bdr
      rw [← hwA]
      clear hwA bdr
      refine MixH.takes [true, true, true, false, true, false, true] 6 (by kernel_rfl) (by kernel_rfl) (by decide) (by kernel_rfl) hS (fun K hK => ?_)
      simp only [Mix.pick]
      repeat (go_big_quiet_step (fail))
      refine wpQuiet_nil (hK _ ?_)
      clear hK K
      refine MixH.take 5 3 _ (.map (some N)) rfl (by kernel_rfl) (by kernel_rfl) (by kernel_rfl) (by kernel_rfl) (yields_mapq (.tmp 21) rfl ⟨t, 26, none⟩ (.map (some N)) rfl rfl (fun A hA => TblAt.mq hA.1.cb)) hS (fun a' ha => ?_)
      simp only [Act.put, List.setIfInBounds_toArray, List.set_cons_succ, List.set_cons_zero] at ha
      subst ha
      refine MixH.take 4 5 _ (.int .i64 y.pr) rfl (by kernel_rfl) (by kernel_rfl) (by kernel_rfl) (by kernel_rfl) (yields_int (.tmp 23) rfl ⟨O, 0, none⟩ (.int .i64 y.pr) rfl rfl (fun A hA => hA.2.c0)) hS (fun a' ha => ?_)
      simp only [Act.put, List.setIfInBounds_toArray, List.set_cons_succ, List.set_cons_zero] at ha
      subst ha
      refine MixH.take 3 7 _ (.int .i64 y.sp) rfl (by kernel_rfl) (by kernel_rfl) (by kernel_rfl) (by kernel_rfl) (yields_int (.tmp 25) rfl ⟨O, 35, none⟩ (.int .i64 y.sp) rfl rfl (fun A hA => hA.2.c35)) hS (fun a' ha => ?_)
      simp only [Act.put, List.setIfInBounds_toArray, List.set_cons_succ, List.set_cons_zero] at ha
      subst ha
      refine MixH.take 2 8 _ (.agg (plC ⟨y.pr, y.sp⟩)) rfl (by kernel_rfl) (by kernel_rfl) (by kernel_rfl) (by kernel_rfl) (yields_buildpl (.tmp 24) (.tmp 26) rfl y.pr y.sp rfl rfl rfl) hS (fun a' ha => ?_)
      simp only [Act.put, List.setIfInBounds_toArray, List.set_cons_succ, List.set_cons_zero] at ha
      subst ha
      refine MixH.take 1 9 _ (v) rfl (by kernel_rfl) (by kernel_rfl) (by kernel_rfl) (by kernel_rfl) (yields_lookq (.tmp 22) (.tmp 27) rfl t M N c E ⟨y.pr, y.sp⟩ ⟨HYV.out.1.pr, HYV.out.1.sp⟩ rfl rfl v HV.out rfl (fun A hA => hA.1)) hS (fun a' ha => ?_)
      simp only [Act.put, List.setIfInBounds_toArray, List.set_cons_succ, List.set_cons_zero] at ha
      subst ha
      refine MixH.takes [false, false, false, false, false, false, false, false, false, false, true] 0 (by kernel_rfl) (by kernel_rfl) (by decide) (by kernel_rfl) hS (fun K hK => ?_)
      simp only [Mix.pick]
      repeat (go_big_quiet_step (fail))
      refine wpQuiet_nil (hK _ ?_)
      clear hK K
      refine MixH.done (by kernel_rfl) ?_
      have HE : Hid (TA wA t M N c E ∧ TupAt wA O y ∧ Below w.heap.size w wA) := ⟨hS.1, hS.2, HA.out⟩
      clear hS
      go_wp2
      go_meet
      exact ⟨rfl, HE⟩
    case rest =>
      obtain ⟨rfl, H3⟩ := hcut
      clear H2
      cases hf : fQ E ⟨y.pr, y.sp⟩ with
      | none =>
        rw [hf] at HV HAW
        have hv := HV.out
        simp only [ptF] at hv
        subst hv
        clear hf
        go_upto_region 5 with fail
        refine MixH.start (fun A => TA A t M N c E ∧ TupAt A O y) (by kernel_rfl) ?_
        obtain ⟨wA, hwA⟩ : ∃ wA, wA = wc.drew := ⟨_, rfl⟩
        have bdr : Below wc.heap.size wc wA := by rw [hwA]; exact (Below.refl _ _).drew
        have hS : TA wA t M N c E ∧ TupAt wA O y := ⟨H3.out.1.below bdr, H3.out.2.1.below bdr⟩
        have HA : Hid (Below w.heap.size w wA) := bthen H3.out.2.2 bdr
        rw [← hwA]
        clear hwA bdr
        refine MixH.takes [true, true, true, true, true] 4 (by kernel_rfl) (by kernel_rfl) (by decide) (by kernel_rfl) hS (fun K hK => ?_)
        simp only [Mix.pick]
        repeat (go_big_quiet_step (fail))
        refine wpQuiet_nil (hK _ ?_)
        clear hK K
        refine MixH.take 3 5 _ (undef) rfl (by kernel_rfl) (by kernel_rfl) (by kernel_rfl) (by kernel_rfl) (.inr ⟨rfl, rfl⟩) hS (fun a' ha => ?_)
        simp only [Act.put, List.setIfInBounds_toArray, List.set_cons_succ, List.set_cons_zero] at ha
        subst ha
        refine MixH.take 2 6 _ (undef) rfl (by kernel_rfl) (by kernel_rfl) (by kernel_rfl) (by kernel_rfl) (.inr ⟨rfl, rfl⟩) hS (fun a' ha => ?_)
        simp only [Act.put, List.setIfInBounds_toArray, List.set_cons_succ, List.set_cons_zero] at ha
        subst ha
        refine MixH.takes [false, false, false, false, false, false, false, true, true] 0 (by kernel_rfl) (by kernel_rfl) (by decide) (by kernel_rfl) hS (fun K hK => ?_)
        simp only [Mix.pick]
        repeat (go_big_quiet_step (fail))
        refine wpQuiet_nil (hK _ ?_)
        clear hK K
        refine MixH.done (by kernel_rfl) ?_
        clear hS
        go_wp2_with fail
        go_ret
        exact ⟨by rw [HAW.out]; rfl, HA.out⟩
      | some f =>
        rw [hf] at HV HAW
        have hv := HV.out
        simp only [ptF] at hv
        subst hv
        have HFM : Hid (f ∈ E) := (fQ_some hf).1
        clear hf
        obtain ⟨be, hbe⟩ : ∃ b, eqP (ouT c f.n) y = b := ⟨_, rfl⟩
        have HBE : Hid (eqP (ouT c f.n) y = be) := hbe
        have HNE : Hid ((!eqP (ouT c f.n) y) = !be) := by show _ = _; rw [hbe]
        clear hbe
        go_upto_region 5 with fail
        refine MixH.start (fun A => TA A t M N c E ∧ TupAt A O y) (by kernel_rfl) ?_
        obtain ⟨wA, hwA⟩ : ∃ wA, wA = wc.drew := ⟨_, rfl⟩
        have bdr : Below wc.heap.size wc wA := by rw [hwA]; exact (Below.refl _ _).drew
        have hS : TA wA t M N c E ∧ TupAt wA O y := ⟨H3.out.1.below bdr, H3.out.2.1.below bdr⟩
        have HA : Hid (Below w.heap.size w wA) := bthen H3.out.2.2 bdr
        have QO : Hid _ := outward_any t M N c f.P f.n wA hS.1.cb (hS.1.en f HFM.out)
        rw [← hwA]
        clear hwA bdr
        refine MixH.takes [true, true, true, true, true] 4 (by kernel_rfl) (by kernel_rfl) (by decide) (by kernel_rfl) hS (fun K hK => ?_)
        simp only [Mix.pick]
        repeat (go_big_quiet_step (fail))
        refine wpQuiet_nil (hK _ ?_)
        clear hK K
        refine MixH.take 3 6 _ (.agg (tuC y)) rfl (by kernel_rfl) (by kernel_rfl) (by kernel_rfl) (by kernel_rfl) (yields_tup (.tmp 5) rfl O 0 y rfl rfl (fun A hA => hA.2.all)) hS (fun a' ha => ?_)
        simp only [Act.put, List.setIfInBounds_toArray, List.set_cons_succ, List.set_cons_zero] at ha
        subst ha
        refine MixH.one [false, false, false, false, false, true] 2 5 _ rfl rfl (by kernel_rfl) (by kernel_rfl) (fun K hK => ?_)
        simp only [Mix.pick]
        go_wp2_with fail
        refine Calls.mono QO.out ?_
        rintro e1 w3 ⟨rfl, b3⟩
        have H4 : Hid (Below w.heap.size w w3) := bthen HA.out b3
        have hS3 : TA w3 t M N c E ∧ TupAt w3 O y := ⟨hS.1.below b3, hS.2.below b3⟩
        clear hS b3 QO
        have hS := hS3
        clear hS3
        go_wp2_with fail
        refine ⟨rfl, hK _ _ hS ?_⟩
        clear hK K
        refine MixH.take 1 7 _ (.bool (!be)) rfl (by kernel_rfl) (by kernel_rfl) (by kernel_rfl) (by kernel_rfl) (yields_neq_tu (.tmp 34) (.tmp 35) rfl (ouT c f.n) y rfl rfl (!be) HNE.out rfl) hS (fun a' ha => ?_)
        simp only [Act.put, List.setIfInBounds_toArray, List.set_cons_succ, List.set_cons_zero] at ha
        subst ha
        refine MixH.takes [false, false, false, false, false, false, false, false, true] 0 (by kernel_rfl) (by kernel_rfl) (by decide) (by kernel_rfl) hS (fun K hK => ?_)
        simp only [Mix.pick]
        repeat (go_big_quiet_step (fail))
        refine wpQuiet_nil (hK _ ?_)
        clear hK K
        refine MixH.done (by kernel_rfl) ?_
        clear hS
        cases be with
        | false =>
          go_wp2_with fail
          go_ret
          exact ⟨by rw [HAW.out]; simp only [Option.bind_some]; rw [HBE.out]; rfl, H4.out⟩
        | true =>
          go_wp2_with fail
          go_ret
          exact ⟨by rw [HAW.out]; simp only [Option.bind_some]; rw [HBE.out]; rfl, H4.out⟩
end Go.Proofs.YtclpeepnngegaaaDoor
