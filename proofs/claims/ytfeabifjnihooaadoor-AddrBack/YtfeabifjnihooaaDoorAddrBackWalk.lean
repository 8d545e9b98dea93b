/-
  weirlaw4.AddrBack: the walk.
-/
import Derived.Test.YtfeabifjnihooaaDoorAdSta
import Derived.Test.YtfeabifjnihooaaDoorAdY5
namespace Go.Proofs.YtfeabifjnihooaaDoor
open Go.RowKit Go.Maps

theorem wpList_eql_ipb {ops : Array Oper} {rest : List Oper} {o : Oper} {a : Act} {w : World} {Q : Exit → Act → World → Prop} (X Y : Operand) (ho : o.op = .binOp .eql 27 X Y 27) (V U : Int) (x y : Nat → Nat) (hx : a.eval X = .agg (ipCells V x)) (hy : a.eval Y = .agg (ipCells U y)) (b : Bool) (hbb : (V == U && same16 x y) = b)
    (hw : Region.wanted o (yielded ops a.tmps) = true) (h : wpList Tryd.prog ops Q rest (a.put o.dst (.bool b)) w) : wpList Tryd.prog ops Q (o :: rest) a w := by
  subst hbb
  exact wpList_eql_ip X Y ho V U x y hx hy hw h
theorem Tryd.pfxFields : Tryd.prog.underlying 37 = some (.struct (Tryd.prog.fieldsOf 37)) := by kernel_rfl
theorem Tryd.pfxStood : Tryd.prog.stoodInHeld 37 = false := by kernel_rfl
theorem Tryd.pfxGuard : Tryd.prog.eqGuardType Tryd.prog.depth 37 = false := by kernel_rfl
theorem pfx_part0 (p : PV) (w : World) : (part 27 (pfC p) 0).run Tryd.prog w = .ok (.agg (ipCells p.V p.x)) w := by kernel_rfl
theorem pfx_part17 (p : PV) (w : World) : (part 3 (pfC p) 17).run Tryd.prog w = .ok (.int .i64 p.n) w := by kernel_rfl
set_option maxHeartbeats 1600000 in
set_option maxRecDepth 100000 in
theorem eq_pfx (p q : PV) (w : World) : (Op.equalIn 10000 37 (.agg (pfC p)) (.agg (pfC q))).run Tryd.prog w = .ok ((p.V == q.V && same16 p.x q.x) && p.n == q.n) w := by
  rw [show (10000 : Nat) = 9999 + 1 from rfl, run_equalIn_struct w 9999 37 _ _ Tryd.pfxFields Tryd.pfxStood]
  rw [show (Tryd.prog.fieldsOf 37).toList = [{ name := "IP", type := 27, offset := 0, embedded := false, tag := "", pkgPath := "", byteOffset := 0 }, { name := "Len", type := 3, offset := 17, embedded := false, tag := "", pkgPath := "", byteOffset := 24 }] from by kernel_rfl]
  have ii : (Op.equalIn 9999 3 (.int .i64 p.n) (.int .i64 q.n)).run Tryd.prog w = .ok (p.n == q.n) w := by
    rw [show (9999 : Nat) = 9998 + 1 from rfl, run_equalIn_int w 9998 3 .i64 .i64 p.n q.n Tryd.underlying3]
  have ip : (Op.equalIn 9999 27 (.agg (ipCells p.V p.x)) (.agg (ipCells q.V q.x))).run Tryd.prog w = .ok (p.V == q.V && same16 p.x q.x) w := eqIP p.V q.V p.x q.x w 9996
  cases hb : (p.V == q.V && same16 p.x q.x) with
  | true =>
    rw [hb] at ip
    cases hn : (p.n == q.n) <;> rw [hn] at ii <;> simp [Op.eqFields, Sem.run_bind, Sem.run_ite, pfx_part0, pfx_part17, ii, ip]
  | false =>
    rw [hb] at ip
    simp [Op.eqFields, Sem.run_bind, Sem.run_ite, pfx_part0, pfx_part17, ip]
theorem wpList_eql_pfx {ops : Array Oper} {rest : List Oper} {o : Oper} {a : Act} {w : World} {Q : Exit → Act → World → Prop} (X Y : Operand) (ho : o.op = .binOp .eql 37 X Y 37) (p q : PV) (hx : a.eval X = .agg (pfC p)) (hy : a.eval Y = .agg (pfC q)) (b : Bool) (hbb : ((p.V == q.V && same16 p.x q.x) && p.n == q.n) = b)
    (hw : Region.wanted o (yielded ops a.tmps) = true) (hh : wpList Tryd.prog ops Q rest (a.put o.dst (.bool b)) w) : wpList Tryd.prog ops Q (o :: rest) a w := by
  refine wpList_step fun K hK => ?_
  rw [if_pos hw]
  have hrun : (execOp a.eval o).run Tryd.prog w = .ok (.value (.bool b)) w := by
    subst hbb
    obtain ⟨dst, op, type, pos, after, guard⟩ := o
    simp only at ho
    subst ho
    simp only [execOp, Sem.run_bind, Sem.run_pure, hx, hy, run_eqGuard_agg w .eql 37 _ _ _ _ Tryd.pfxGuard, Result.andThen_ok, run_eql_struct, eq_pfx]
  unfold Oper.wp
  rw [hrun]
  exact hK _ _ hh
theorem wpList_neq_ipb {ops : Array Oper} {rest : List Oper} {o : Oper} {a : Act} {w : World} {Q : Exit → Act → World → Prop} (X Y : Operand) (ho : o.op = .binOp .neq 27 X Y 27) (V U : Int) (x y : Nat → Nat) (hx : a.eval X = .agg (ipCells V x)) (hy : a.eval Y = .agg (ipCells U y)) (hbb : (V == U && same16 x y) = true)
    (hw : Region.wanted o (yielded ops a.tmps) = true) (hh : wpList Tryd.prog ops Q rest (a.put o.dst (.bool false)) w) : wpList Tryd.prog ops Q (o :: rest) a w := by
  refine wpList_step fun K hK => ?_
  rw [if_pos hw]
  have hrun : (execOp a.eval o).run Tryd.prog w = .ok (.value (.bool false)) w := by
    obtain ⟨dst, op, type, pos, after, guard⟩ := o
    simp only at ho
    subst ho
    simp only [execOp, Sem.run_bind, Sem.run_pure, hx, hy, run_eqGuard_agg w .neq 27 _ _ _ _ Tryd.ipGuard, Result.andThen_ok, run_neq_struct, eqIP V U x y w 9997, hbb, Bool.not_true]
  unfold Oper.wp
  rw [hrun]
  exact hK _ _ hh
theorem wpList_neq_pfx {ops : Array Oper} {rest : List Oper} {o : Oper} {a : Act} {w : World} {Q : Exit → Act → World → Prop} (X Y : Operand) (ho : o.op = .binOp .neq 37 X Y 37) (p q : PV) (hx : a.eval X = .agg (pfC p)) (hy : a.eval Y = .agg (pfC q)) (hbb : ((p.V == q.V && same16 p.x q.x) && p.n == q.n) = true)
    (hw : Region.wanted o (yielded ops a.tmps) = true) (hh : wpList Tryd.prog ops Q rest (a.put o.dst (.bool false)) w) : wpList Tryd.prog ops Q (o :: rest) a w := by
  refine wpList_step fun K hK => ?_
  rw [if_pos hw]
  have hrun : (execOp a.eval o).run Tryd.prog w = .ok (.value (.bool false)) w := by
    obtain ⟨dst, op, type, pos, after, guard⟩ := o
    simp only at ho
    subst ho
    simp only [execOp, Sem.run_bind, Sem.run_pure, hx, hy, run_eqGuard_agg w .neq 37 _ _ _ _ Tryd.pfxGuard, Result.andThen_ok, run_neq_struct, eq_pfx p q w, hbb, Bool.not_true]
  unfold Oper.wp
  rw [hrun]
  exact hK _ _ hh
theorem MacAt.all {w : World} {O : Nat} {m : Nat → Nat} (h : MacAt w O m) : w.rangeAt O 0 (macC m).toList := by
  have k := h.range 0 6
  exact k
theorem yields_eql_macb {ops : Array Oper} {o : Oper} {a : Act} {S : World → Prop} (X Y : Operand) (ho : o.op = .binOp .eql 42 X Y 42) (x y : Nat → Nat) (hx : a.eval X = .agg (macC x)) (hy : a.eval Y = .agg (macC y)) (hb : same6 x y = true) (hw : Region.wanted o (yielded ops a.tmps) = true) : YieldsIf Tryd.prog ops S o (.bool true) a := by
  refine .inl ⟨hw, fun w _ => ?_⟩
  obtain ⟨dst, op, type, pos, after, guard⟩ := o
  simp only at ho
  subst ho
  simp only [execOp, Sem.run_bind, Sem.run_pure, hx, hy, run_eqGuard_agg w .eql 42 _ _ _ _ Tryd.macGuard, Result.andThen_ok, run_eql_struct, eq6 x y w 9998, hb]
set_option maxHeartbeats 4000000 in
set_option maxRecDepth 100000 in
theorem addrBack.walk (w : World) (hT : Gl4 w) (V : Int) (x : Nat → Nat) (hx : ∀ i, i < 16 → x i < 256) (p : PV) (hpx : ∀ i, i < 16 → p.x i < 256) (m : Nat → Nat) (hm : ∀ i, i < 6 → m i < 256) : Calls Tryd.prog 6 #[.agg (ipCells V x), .agg (pfC p), .agg (macC m)] w fun r w' => r = .returned (.bool true) ∧ Below w.heap.size w w' := by
  have HG : Hid (Gl4 w) := hT
  have HX : Hid (∀ i, i < 16 → x i < 256) := hx
  have HPX : Hid (∀ i, i < 16 → p.x i < 256) := hpx
  have HM : Hid (∀ i, i < 6 → m i < 256) := hm
  clear hT hx hpx hm
  have hb := ipr_new w V x
  have bel : Below w.heap.size w (w.alloc (.cells (ipCells V x) 27)) := (Below.refl _ _).alloc (Nat.le_refl _) _
  obtain ⟨CX, hC⟩ : ∃ C, C = ipCells V x := ⟨_, rfl⟩
  obtain ⟨Y1, hW⟩ : ∃ W_, W_ = w.alloc (.cells (ipCells V x) 27) := ⟨_, rfl⟩
  rw [← hW] at hb bel
  have HSZX : Hid (Y1.heap.size = w.heap.size + 1) := by show _ = _; rw [hW, World.size_alloc]
  obtain ⟨B1, hB⟩ : ∃ B, B = w.heap.size := ⟨_, rfl⟩
  rw [← hB] at hb
  have HBX : Hid (IprAt Y1 B1 V x) := hb
  rw [← hC] at hW ⊢
  have HOX : Hid (w.heap.size = B1) := hB.symm
  have HLX : Hid (Below w.heap.size w Y1) := bel
  have HWX : Hid (w.alloc (.cells CX 27) = Y1) := hW.symm
  clear hb hW hB hC bel
  have hb := pfx_new Y1 p
  have bel : Below Y1.heap.size Y1 (Y1.alloc (.cells (pfC p) 37)) := (Below.refl _ _).alloc (Nat.le_refl _) _
  obtain ⟨CP, hC⟩ : ∃ C, C = pfC p := ⟨_, rfl⟩
  obtain ⟨Y2, hW⟩ : ∃ W_, W_ = Y1.alloc (.cells (pfC p) 37) := ⟨_, rfl⟩
  rw [← hW] at hb bel
  have HSZP : Hid (Y2.heap.size = Y1.heap.size + 1) := by show _ = _; rw [hW, World.size_alloc]
  obtain ⟨B2, hB⟩ : ∃ B, B = Y1.heap.size := ⟨_, rfl⟩
  rw [← hB] at hb
  have HBP : Hid (PfxAt Y2 B2 p) := hb
  rw [← hC] at hW ⊢
  have HOP : Hid (Y1.heap.size = B2) := hB.symm
  have HLP : Hid (Below Y1.heap.size Y1 Y2) := bel
  have HWP : Hid (Y1.alloc (.cells CP 37) = Y2) := hW.symm
  clear hb hW hB hC bel
  have hb := mac_new Y2 m
  have bel : Below Y2.heap.size Y2 (Y2.alloc (.cells (macC m) 42)) := (Below.refl _ _).alloc (Nat.le_refl _) _
  obtain ⟨CM, hC⟩ : ∃ C, C = macC m := ⟨_, rfl⟩
  obtain ⟨Y3, hW⟩ : ∃ W_, W_ = Y2.alloc (.cells (macC m) 42) := ⟨_, rfl⟩
  rw [← hW] at hb bel
  have HSZM : Hid (Y3.heap.size = Y2.heap.size + 1) := by show _ = _; rw [hW, World.size_alloc]
  obtain ⟨B3, hB⟩ : ∃ B, B = Y2.heap.size := ⟨_, rfl⟩
  rw [← hB] at hb
  have HBM : Hid (MacAt Y3 B3 m) := hb
  rw [← hC] at hW ⊢
  have HOM : Hid (Y2.heap.size = B3) := hB.symm
  have HLM : Hid (Below Y2.heap.size Y2 Y3) := bel
  have HWM : Hid (Y2.alloc (.cells CM 42) = Y3) := hW.symm
  clear hb hW hB hC bel
  have HD2 : Hid (B1 + 1 = B2) := by have h1 := HSZX.out; have h2 := HOX.out; have h3 := HOP.out; show _ = _; omega
  have HD3 : Hid (B2 + 1 = B3) := by have h1 := HSZP.out; have h2 := HOP.out; have h3 := HOM.out; show _ = _; omega
  have H0 : Hid (IprAt Y3 B1 V x ∧ PfxAt Y3 B2 p ∧ MacAt Y3 B3 m ∧ Below w.heap.size w Y3) := ⟨((HBX.out.below HLP.out).below HLM.out), (HBP.out.below HLM.out), HBM.out, ((HLX.out.trans (HLP.out.mono HLX.out.size)).trans (HLM.out.mono (HLX.out.trans (HLP.out.mono HLX.out.size)).size))⟩
  go_enter Tryd.func6, Tryd.ntmps6
  go_upto_region 1 with fail
  rw [HOX.out, HWX.out, HWP.out, HWM.out]
  rw [HD2.out, HD3.out]
  go_wp2_with (refine wpList_load_ipr (.tmp 3) rfl B1 V x rfl H0.out.1 rfl ?_)
  refine (printIP_any V x Y3 HX.out (HG.out.below H0.out.2.2.2)).mono ?_
  rintro e w1 ⟨rfl, hb⟩
  have H1 : Hid (IprAt w1 B1 V x ∧ PfxAt w1 B2 p ∧ MacAt w1 B3 m ∧ Below w.heap.size w w1) := ⟨H0.out.1.below hb, H0.out.2.1.below hb, H0.out.2.2.1.below hb, H0.out.2.2.2.trans (hb.mono H0.out.2.2.2.size)⟩
  clear hb
  cases hv : vld V x with
  | true =>
    rw [prO_yes hv]
    have HV : Hid (vld V x = true) := hv
    clear hv
    go_upto_region 2 with fail
    refine MixH.start (fun A => IprAt A B1 V x ∧ PfxAt A B2 p ∧ MacAt A B3 m ∧ Below w.heap.size w A) (by kernel_rfl) ?_
    obtain ⟨wA, hwA⟩ : ∃ W_, W_ = w1.drew := ⟨_, rfl⟩
    have bdr : Below w1.heap.size w1 wA := by rw [hwA]; exact (Below.refl _ _).drew
    have hS : IprAt wA B1 V x ∧ PfxAt wA B2 p ∧ MacAt wA B3 m ∧ Below w.heap.size w wA := ⟨H1.out.1.below bdr, H1.out.2.1.below bdr, H1.out.2.2.1.below bdr, H1.out.2.2.2.trans (bdr.mono H1.out.2.2.2.size)⟩
    rw [← hwA]
    clear hwA bdr
    refine MixH.takes [true] 14 (by kernel_rfl) (by kernel_rfl) (by decide) (by kernel_rfl) hS (fun K hK => ?_)
    simp only [Mix.pick]
    repeat (go_big_quiet_step (fail))
    refine wpQuiet_nil (hK _ ?_)
    clear hK K
    refine MixH.take 13 3 _ (.agg (ipCells V x)) rfl (by kernel_rfl) (by kernel_rfl) (by kernel_rfl) (by kernel_rfl) (yields_ipr (.tmp 3) rfl B1 0 V x rfl rfl (fun A hA => ipr_all hA.1)) hS (fun a' ha => ?_)
    simp only [Act.put, List.setIfInBounds_toArray, List.set_cons_succ, List.set_cons_zero] at ha
    subst ha
    refine MixH.one [false, true] 12 1 _ rfl rfl (by kernel_rfl) (by kernel_rfl) (fun K hK => ?_)
    simp only [Mix.pick]
    go_wp2_with fail
    refine Calls.mono (num4_any _ wA) ?_
    rintro e wz ⟨rfl, rfl⟩
    go_wp2_with fail
    refine ⟨rfl, hK _ _ hS ?_⟩
    clear hK K
    refine MixH.takes [false, false, true] 11 (by kernel_rfl) (by kernel_rfl) (by decide) (by kernel_rfl) hS (fun K hK => ?_)
    simp only [Mix.pick]
    repeat (go_big_quiet_step (fail))
    refine wpQuiet_nil (hK _ ?_)
    clear hK K
    refine MixH.one [false, false, false, false, true] 10 4 _ rfl rfl (by kernel_rfl) (by kernel_rfl) (fun K hK => ?_)
    simp only [Mix.pick]
    go_wp2_with fail
    refine Calls.mono (valid_any V x wA HX.out) ?_
    rintro e wB ⟨rfl, hb⟩
    replace hS : IprAt wB B1 V x ∧ PfxAt wB B2 p ∧ MacAt wB B3 m ∧ Below w.heap.size w wB := ⟨hS.1.below hb, hS.2.1.below hb, hS.2.2.1.below hb, hS.2.2.2.trans (hb.mono hS.2.2.2.size)⟩
    clear hb
    rw [HV.out]
    go_wp2_with fail
    refine ⟨rfl, hK _ _ hS ?_⟩
    clear hK K
    refine MixH.takes [false, false, false, false, false, true, true, true] 7 (by kernel_rfl) (by kernel_rfl) (by decide) (by kernel_rfl) hS (fun K hK => ?_)
    simp only [Mix.pick]
    repeat (go_big_quiet_step (fail))
    refine wpQuiet_nil (hK _ ?_)
    clear hK K
    refine MixH.one [false, false, false, false, false, false, false, false, true] 6 8 _ rfl rfl (by kernel_rfl) (by kernel_rfl) (fun K hK => ?_)
    simp only [Mix.pick]
    go_wp2_with fail
    refine Calls.mono (num4_any _ wB) ?_
    rintro e wz ⟨rfl, rfl⟩
    go_wp2_with fail
    refine ⟨rfl, hK _ _ hS ?_⟩
    clear hK K
    refine MixH.takes [false, false, false, false, false, false, false, false, false, true, true, true, true, true, true] 0 (by kernel_rfl) (by kernel_rfl) (by decide) (by kernel_rfl) hS (fun K hK => ?_)
    simp only [Mix.pick]
    repeat (go_big_quiet_step (fail))
    refine wpQuiet_nil (hK _ ?_)
    clear hK K
    refine MixH.done (by kernel_rfl) ?_
    have H2 : Hid (IprAt wB B1 V x ∧ PfxAt wB B2 p ∧ MacAt wB B3 m ∧ Below w.heap.size w wB) := hS
    clear hS
    go_wp2_with fail
    refine (num4_any _ wB).mono ?_
    rintro e wz ⟨rfl, rfl⟩
    obtain ⟨y, hy, hyx⟩ := print_back (s := txB (prIP V x)) HV.out HX.out (txB_drp fun c hc => (prIP_chr HX.out c hc).1)
    have HPI : Hid (pIP (txB (prIP V x)) = .inl (V, y) ∧ (V == V && same16 y x) = true) := ⟨hy, by rw [beq_self_eq_true, Bool.true_and]; exact (same16_iff y x).2 hyx⟩
    clear hy hyx
    go_wp2_with fail
    refine (parseIP_any (txB (prIP V x)) wB).mono ?_
    rintro e w3 ⟨rfl, hb⟩
    have H3 : Hid (IprAt w3 B1 V x ∧ PfxAt w3 B2 p ∧ MacAt w3 B3 m ∧ Below w.heap.size w w3) := ⟨H2.out.1.below hb, H2.out.2.1.below hb, H2.out.2.2.1.below hb, H2.out.2.2.2.trans (hb.mono H2.out.2.2.2.size)⟩
    clear hb
    rw [HPI.out.1]
    show _
    simp only [ipO]
    obtain ⟨O1, hO⟩ : ∃ O_, O_ = w3.heap.size := ⟨_, rfl⟩
    have HOO1 : Hid (w3.heap.size = O1) := hO.symm
    clear hO
    go_wp2_with (refine wpList_store_ipr (.tmp 9) (.tmp 46) rfl rfl w3.heap.size 0 (fun _ => 0) V y rfl rfl (ipr_new w3 0 (fun _ => 0)) rfl ?_)
    intro w4 hRE kE
    rw [HOO1.out] at hRE kE ⊢
    have bN : Below w3.heap.size w3 w4 := ((Below.refl _ _).alloc (Nat.le_refl _) _).trans (kE.below (fun q h => by have h' : q = O1 := h; have := HOO1.out; omega) (by rw [World.size_alloc]; omega))
    have H4 : Hid (IprAt w4 B1 V x ∧ PfxAt w4 B2 p ∧ MacAt w4 B3 m ∧ Below w.heap.size w w4) := ⟨H3.out.1.below bN, H3.out.2.1.below bN, H3.out.2.2.1.below bN, H3.out.2.2.2.trans (bN.mono H3.out.2.2.2.size)⟩
    have H4o : Hid (IprAt w4 O1 V y) := hRE
    clear hRE kE bN
    go_wp2_with (first | (refine wpList_load_ipr (.tmp 9) rfl O1 V y rfl H4o.out rfl ?_) | (refine wpList_load_ipr (.tmp 3) rfl B1 V x rfl H4.out.1 rfl ?_) | (refine wpList_neq_ipb (.tmp 49) (.tmp 50) rfl V V y x rfl rfl HPI.out.2 rfl ?_))
    refine (num4_any _ w4).mono ?_
    rintro e wz ⟨rfl, rfl⟩
    go_wp2_with (refine wpList_load_pfx (.tmp 4) rfl B2 p rfl H4.out.2.1 rfl ?_)
    refine (printPfx_any p w4 HPX.out (HG.out.below H4.out.2.2.2)).mono ?_
    rintro e w5 ⟨rfl, hb⟩
    have H5 : Hid (IprAt w5 B1 V x ∧ PfxAt w5 B2 p ∧ MacAt w5 B3 m ∧ Below w.heap.size w w5) := ⟨H4.out.1.below hb, H4.out.2.1.below hb, H4.out.2.2.1.below hb, H4.out.2.2.2.trans (hb.mono H4.out.2.2.2.size)⟩
    clear hb
    by_cases hq : vpE p = 0
    · rw [pfO_yes hq]
      have HVP : Hid (vpE p = 0) := hq
      clear hq
      go_upto_region 9 with fail
      refine MixH.start (fun A => IprAt A B1 V x ∧ PfxAt A B2 p ∧ MacAt A B3 m ∧ Below w.heap.size w A) (by kernel_rfl) ?_
      obtain ⟨wA, hwA⟩ : ∃ W_, W_ = w5.drew := ⟨_, rfl⟩
      have bdr : Below w5.heap.size w5 wA := by rw [hwA]; exact (Below.refl _ _).drew
      have hS : IprAt wA B1 V x ∧ PfxAt wA B2 p ∧ MacAt wA B3 m ∧ Below w.heap.size w wA := ⟨H5.out.1.below bdr, H5.out.2.1.below bdr, H5.out.2.2.1.below bdr, H5.out.2.2.2.trans (bdr.mono H5.out.2.2.2.size)⟩
      rw [← hwA]
      clear hwA bdr
      refine MixH.takes [true] 14 (by kernel_rfl) (by kernel_rfl) (by decide) (by kernel_rfl) hS (fun K hK => ?_)
      simp only [Mix.pick]
      repeat (go_big_quiet_step (fail))
      refine wpQuiet_nil (hK _ ?_)
      clear hK K
      refine MixH.take 13 2 _ (.agg (pfC p)) rfl (by kernel_rfl) (by kernel_rfl) (by kernel_rfl) (by kernel_rfl) (yields_pfx (.tmp 4) rfl B2 0 p rfl rfl (fun A hA => PfxAt.all hA.2.1)) hS (fun a' ha => ?_)
      simp only [Act.put, List.setIfInBounds_toArray, List.set_cons_succ, List.set_cons_zero] at ha
      subst ha
      refine MixH.one [false, true] 12 1 _ rfl rfl (by kernel_rfl) (by kernel_rfl) (fun K hK => ?_)
      simp only [Mix.pick]
      go_wp2_with fail
      refine Calls.mono (num4_any _ wA) ?_
      rintro e wz ⟨rfl, rfl⟩
      go_wp2_with fail
      refine ⟨rfl, hK _ _ hS ?_⟩
      clear hK K
      refine MixH.one [false, false, false, true] 11 3 _ rfl rfl (by kernel_rfl) (by kernel_rfl) (fun K hK => ?_)
      simp only [Mix.pick]
      go_wp2_with fail
      refine Calls.mono (vpref_any p wA HPX.out) ?_
      rintro e wB ⟨rfl, hb⟩
      replace hS : IprAt wB B1 V x ∧ PfxAt wB B2 p ∧ MacAt wB B3 m ∧ Below w.heap.size w wB := ⟨hS.1.below hb, hS.2.1.below hb, hS.2.2.1.below hb, hS.2.2.2.trans (hb.mono hS.2.2.2.size)⟩
      clear hb
      rw [HVP.out]
      go_wp2_with fail
      refine ⟨rfl, hK _ _ hS ?_⟩
      clear hK K
      refine MixH.one [false, false, false, false, true] 10 4 _ rfl rfl (by kernel_rfl) (by kernel_rfl) (fun K hK => ?_)
      simp only [Mix.pick]
      go_wp2_with fail
      refine Calls.mono (num4_any _ wB) ?_
      rintro e wz ⟨rfl, rfl⟩
      go_wp2_with fail
      refine ⟨rfl, hK _ _ hS ?_⟩
      clear hK K
      refine MixH.takes [false, false, false, false, false, true, true, true] 7 (by kernel_rfl) (by kernel_rfl) (by decide) (by kernel_rfl) hS (fun K hK => ?_)
      simp only [Mix.pick]
      repeat (go_big_quiet_step (fail))
      refine wpQuiet_nil (hK _ ?_)
      clear hK K
      refine MixH.one [false, false, false, false, false, false, false, false, true] 6 8 _ rfl rfl (by kernel_rfl) (by kernel_rfl) (fun K hK => ?_)
      simp only [Mix.pick]
      go_wp2_with fail
      refine Calls.mono (num4_any _ wB) ?_
      rintro e wz ⟨rfl, rfl⟩
      go_wp2_with fail
      refine ⟨rfl, hK _ _ hS ?_⟩
      clear hK K
      refine MixH.takes [false, false, false, false, false, false, false, false, false, true, true, true, true, true, true] 0 (by kernel_rfl) (by kernel_rfl) (by decide) (by kernel_rfl) hS (fun K hK => ?_)
      simp only [Mix.pick]
      repeat (go_big_quiet_step (fail))
      refine wpQuiet_nil (hK _ ?_)
      clear hK K
      refine MixH.done (by kernel_rfl) ?_
      have H6 : Hid (IprAt wB B1 V x ∧ PfxAt wB B2 p ∧ MacAt wB B3 m ∧ Below w.heap.size w wB) := hS
      clear hS
      go_wp2_with fail
      refine (num4_any _ wB).mono ?_
      rintro e wz ⟨rfl, rfl⟩
      obtain ⟨z, hz, hzx⟩ := pf_back HVP.out HPX.out
      have HPF : Hid (pPF (txB (prPF p)) = .inl ⟨p.V, z, p.n⟩ ∧ (((⟨p.V, z, p.n⟩ : PV).V == p.V && same16 (⟨p.V, z, p.n⟩ : PV).x p.x) && (⟨p.V, z, p.n⟩ : PV).n == p.n) = true) := ⟨hz, by simp only [beq_self_eq_true, Bool.true_and, Bool.and_true]; exact (same16_iff z p.x).2 hzx⟩
      clear hz hzx
      go_wp2_with fail
      refine (parsePfx_any (txB (prPF p)) wB).mono ?_
      rintro e w7 ⟨rfl, hb⟩
      have H7 : Hid (IprAt w7 B1 V x ∧ PfxAt w7 B2 p ∧ MacAt w7 B3 m ∧ Below w.heap.size w w7) := ⟨H6.out.1.below hb, H6.out.2.1.below hb, H6.out.2.2.1.below hb, H6.out.2.2.2.trans (hb.mono H6.out.2.2.2.size)⟩
      clear hb
      rw [HPF.out.1]
      show _
      simp only [pxO]
      obtain ⟨pp, hpp⟩ : ∃ pp : PV, pp = ⟨p.V, z, p.n⟩ := ⟨_, rfl⟩
      have HPP : Hid (((pp.V == p.V && same16 pp.x p.x) && pp.n == p.n) = true) := by show _ = _; rw [hpp]; exact HPF.out.2
      rw [← hpp]
      clear hpp
      obtain ⟨O2, hO⟩ : ∃ O_, O_ = w7.heap.size := ⟨_, rfl⟩
      have HOO2 : Hid (w7.heap.size = O2) := hO.symm
      clear hO
      go_wp2_with (refine wpList_store_pfx (.tmp 14) (.tmp 87) rfl rfl w7.heap.size pz pp rfl rfl (pfx_new w7 pz) rfl ?_)
      intro w8 hRE kE
      rw [HOO2.out] at hRE kE ⊢
      have bN : Below w7.heap.size w7 w8 := ((Below.refl _ _).alloc (Nat.le_refl _) _).trans (kE.below (fun q h => by have h' : q = O2 := h; have := HOO2.out; omega) (by rw [World.size_alloc]; omega))
      have H8 : Hid (IprAt w8 B1 V x ∧ PfxAt w8 B2 p ∧ MacAt w8 B3 m ∧ Below w.heap.size w w8) := ⟨H7.out.1.below bN, H7.out.2.1.below bN, H7.out.2.2.1.below bN, H7.out.2.2.2.trans (bN.mono H7.out.2.2.2.size)⟩
      have H8o : Hid (PfxAt w8 O2 pp) := hRE
      clear hRE kE bN
      go_wp2_with (first | (refine wpList_load_pfx (.tmp 14) rfl O2 pp rfl H8o.out rfl ?_) | (refine wpList_load_pfx (.tmp 4) rfl B2 p rfl H8.out.2.1 rfl ?_) | (refine wpList_neq_pfx (.tmp 90) (.tmp 91) rfl pp p rfl rfl HPP.out rfl ?_))
      refine (num4_any _ w8).mono ?_
      rintro e wz ⟨rfl, rfl⟩
      go_wp2_with (refine wpList_load_mac (.tmp 5) rfl B3 m rfl H8.out.2.2.1 rfl ?_)
      refine (printMac_any m w8 HM.out).mono ?_
      rintro e w9 ⟨rfl, hb⟩
      have H9 : Hid (IprAt w9 B1 V x ∧ PfxAt w9 B2 p ∧ MacAt w9 B3 m ∧ Below w.heap.size w w9) := ⟨H8.out.1.below hb, H8.out.2.1.below hb, H8.out.2.2.1.below hb, H8.out.2.2.2.trans (hb.mono H8.out.2.2.2.size)⟩
      clear hb
      go_wp2_with fail
      refine (parseMac_any (txB (prM m 6)) w9).mono ?_
      rintro e wC ⟨rfl, hb⟩
      have HC : Hid (IprAt wC B1 V x ∧ PfxAt wC B2 p ∧ MacAt wC B3 m ∧ Below w.heap.size w wC) := ⟨H9.out.1.below hb, H9.out.2.1.below hb, H9.out.2.2.1.below hb, H9.out.2.2.2.trans (hb.mono H9.out.2.2.2.size)⟩
      clear hb
      obtain ⟨u, hu, hux⟩ := mac_back HM.out
      have HMB : Hid (same6 u m = true) := by
        show _ = _
        unfold same6
        rw [decide_eq_true_iff]
        exact ⟨hux 0 (by omega), hux 1 (by omega), hux 2 (by omega), hux 3 (by omega), hux 4 (by omega), hux 5 (by omega)⟩
      rw [hu]
      show _
      simp only [mcO]
      clear hu hux
      obtain ⟨O3, hO⟩ : ∃ O_, O_ = wC.heap.size := ⟨_, rfl⟩
      have HOO3 : Hid (wC.heap.size = O3) := hO.symm
      clear hO
      go_wp2_with (refine wpList_store_mac (.tmp 17) (.tmp 106) rfl rfl wC.heap.size mz u rfl rfl (mac_new wC mz) rfl ?_)
      intro wD hRE kE
      rw [HOO3.out] at hRE kE ⊢
      have bN : Below wC.heap.size wC wD := ((Below.refl _ _).alloc (Nat.le_refl _) _).trans (kE.below (fun q h => by have h' : q = O3 := h; have := HOO3.out; omega) (by rw [World.size_alloc]; omega))
      have HD : Hid (IprAt wD B1 V x ∧ PfxAt wD B2 p ∧ MacAt wD B3 m ∧ Below w.heap.size w wD) := ⟨HC.out.1.below bN, HC.out.2.1.below bN, HC.out.2.2.1.below bN, HC.out.2.2.2.trans (bN.mono HC.out.2.2.2.size)⟩
      have HDo : Hid (MacAt wD O3 u) := hRE
      clear hRE kE bN
      go_wp2_with fail
      refine (started_any wD (HG.out.p.below HD.out.2.2.2) (HG.out.s.old HD.out.2.2.2)).mono ?_
      rintro e wE ⟨rfl, hb⟩
      have HE : Hid (MacAt wE O3 u ∧ MacAt wE B3 m ∧ Below w.heap.size w wE) := ⟨HDo.out.below hb, HD.out.2.2.1.below hb, HD.out.2.2.2.trans (hb.mono HD.out.2.2.2.size)⟩
      clear hb
      go_wp2_with (first | (refine wpList_load_mac (.tmp 17) rfl O3 u rfl HE.out.1 rfl ?_) | (refine wpList_load_mac (.tmp 5) rfl B3 m rfl HE.out.2.1 rfl ?_) | (refine wpList_eql_mac (.tmp 111) (.tmp 112) rfl u m rfl rfl true HMB.out rfl ?_))
      refine (num4_any _ wE).mono ?_
      rintro e wz ⟨rfl, rfl⟩
      go_wp2
      go_ret
      exact ⟨rfl, HE.out.2.2⟩
    · rw [pfO_no hq]
      obtain ⟨e0, he0⟩ : ∃ e0, vpE p = e0 := ⟨_, rfl⟩
      have HVP : Hid (vpE p = e0) := he0
      rw [he0] at hq ⊢
      have q0 : (((e0 : Nat) : Int) != 0) = true := by simp [hq]
      have q1 : (((e0 : Nat) : Int) == 0) = false := by simp [hq]
      clear hq he0
      go_upto_region 9 with fail
      refine MixH.start (fun A => IprAt A B1 V x ∧ PfxAt A B2 p ∧ MacAt A B3 m ∧ Below w.heap.size w A) (by kernel_rfl) ?_
      obtain ⟨wA, hwA⟩ : ∃ W_, W_ = w5.drew := ⟨_, rfl⟩
      have bdr : Below w5.heap.size w5 wA := by rw [hwA]; exact (Below.refl _ _).drew
      have hS : IprAt wA B1 V x ∧ PfxAt wA B2 p ∧ MacAt wA B3 m ∧ Below w.heap.size w wA := ⟨H5.out.1.below bdr, H5.out.2.1.below bdr, H5.out.2.2.1.below bdr, H5.out.2.2.2.trans (bdr.mono H5.out.2.2.2.size)⟩
      rw [← hwA]
      clear hwA bdr
      refine MixH.takes [true] 14 (by kernel_rfl) (by kernel_rfl) (by decide) (by kernel_rfl) hS (fun K hK => ?_)
      simp only [Mix.pick]
      repeat (go_big_quiet_step (fail))
      refine wpQuiet_nil (hK _ ?_)
      clear hK K
      refine MixH.take 13 2 _ (.agg (pfC p)) rfl (by kernel_rfl) (by kernel_rfl) (by kernel_rfl) (by kernel_rfl) (yields_pfx (.tmp 4) rfl B2 0 p rfl rfl (fun A hA => PfxAt.all hA.2.1)) hS (fun a' ha => ?_)
      simp only [Act.put, List.setIfInBounds_toArray, List.set_cons_succ, List.set_cons_zero] at ha
      subst ha
      refine MixH.one [false, true] 12 1 _ rfl rfl (by kernel_rfl) (by kernel_rfl) (fun K hK => ?_)
      simp only [Mix.pick]
      go_wp2_with fail
      refine Calls.mono (num4_any _ wA) ?_
      rintro e wz ⟨rfl, rfl⟩
      go_wp2_with fail
      refine ⟨rfl, hK _ _ hS ?_⟩
      clear hK K
      refine MixH.one [false, false, false, true] 11 3 _ rfl rfl (by kernel_rfl) (by kernel_rfl) (fun K hK => ?_)
      simp only [Mix.pick]
      go_wp2_with fail
      refine Calls.mono (vpref_any p wA HPX.out) ?_
      rintro e wB ⟨rfl, hb⟩
      replace hS : IprAt wB B1 V x ∧ PfxAt wB B2 p ∧ MacAt wB B3 m ∧ Below w.heap.size w wB := ⟨hS.1.below hb, hS.2.1.below hb, hS.2.2.1.below hb, hS.2.2.2.trans (hb.mono hS.2.2.2.size)⟩
      clear hb
      rw [HVP.out]
      go_wp2_with fail
      refine ⟨rfl, hK _ _ hS ?_⟩
      clear hK K
      refine MixH.one [false, false, false, false, true] 10 4 _ rfl rfl (by kernel_rfl) (by kernel_rfl) (fun K hK => ?_)
      simp only [Mix.pick]
      go_wp2_with fail
      refine Calls.mono (num4_any _ wB) ?_
      rintro e wz ⟨rfl, rfl⟩
      go_wp2_with fail
      refine ⟨rfl, hK _ _ hS ?_⟩
      clear hK K
      refine MixH.takes [false, false, false, false, false, true, true, true] 7 (by kernel_rfl) (by kernel_rfl) (by decide) (by kernel_rfl) hS (fun K hK => ?_)
      simp only [Mix.pick]
      repeat (go_big_quiet_step (fail))
      refine wpQuiet_nil (hK _ ?_)
      clear hK K
      refine MixH.one [false, false, false, false, false, false, false, false, true] 6 8 _ rfl rfl (by kernel_rfl) (by kernel_rfl) (fun K hK => ?_)
      simp only [Mix.pick]
      go_wp2_with fail
      refine Calls.mono (num4_any _ wB) ?_
      rintro e wz ⟨rfl, rfl⟩
      go_wp2_with fail
      refine ⟨rfl, hK _ _ hS ?_⟩
      clear hK K
      refine MixH.takes [false, false, false, false, false, false, false, false, false, true, true, true] 3 (by kernel_rfl) (by kernel_rfl) (by decide) (by kernel_rfl) hS (fun K hK => ?_)
      simp only [Mix.pick]
      repeat (go_big_quiet_step (fail))
      refine wpQuiet_nil (hK _ ?_)
      clear hK K
      refine MixH.one [false, false, false, false, false, false, false, false, false, false, false, false, true] 2 12 _ rfl rfl (by kernel_rfl) (by kernel_rfl) (fun K hK => ?_)
      simp only [Mix.pick]
      go_wp2
      refine ⟨rfl, hK _ _ hS ?_⟩
      clear hK K
      refine MixH.takes [false, false, false, false, false, false, false, false, false, false, false, false, false, true, true] 0 (by kernel_rfl) (by kernel_rfl) (by decide) (by kernel_rfl) hS (fun K hK => ?_)
      simp only [Mix.pick]
      repeat (go_big_quiet_step (fail))
      refine wpQuiet_nil (hK _ ?_)
      clear hK K
      refine MixH.done (by kernel_rfl) ?_
      have H6 : Hid (IprAt wB B1 V x ∧ PfxAt wB B2 p ∧ MacAt wB B3 m ∧ Below w.heap.size w wB) := hS
      clear hS
      go_wp2_with fail
      refine (num4_any _ wB).mono ?_
      rintro e wz ⟨rfl, rfl⟩
      go_wp2_with (refine wpList_load_mac (.tmp 5) rfl B3 m rfl H6.out.2.2.1 rfl ?_)
      refine (printMac_any m wB HM.out).mono ?_
      rintro e w9 ⟨rfl, hb⟩
      have H9 : Hid (IprAt w9 B1 V x ∧ PfxAt w9 B2 p ∧ MacAt w9 B3 m ∧ Below w.heap.size w w9) := ⟨H6.out.1.below hb, H6.out.2.1.below hb, H6.out.2.2.1.below hb, H6.out.2.2.2.trans (hb.mono H6.out.2.2.2.size)⟩
      clear hb
      go_wp2_with fail
      refine (parseMac_any (txB (prM m 6)) w9).mono ?_
      rintro e wC ⟨rfl, hb⟩
      have HC : Hid (IprAt wC B1 V x ∧ PfxAt wC B2 p ∧ MacAt wC B3 m ∧ Below w.heap.size w wC) := ⟨H9.out.1.below hb, H9.out.2.1.below hb, H9.out.2.2.1.below hb, H9.out.2.2.2.trans (hb.mono H9.out.2.2.2.size)⟩
      clear hb
      obtain ⟨u, hu, hux⟩ := mac_back HM.out
      have HMB : Hid (same6 u m = true) := by
        show _ = _
        unfold same6
        rw [decide_eq_true_iff]
        exact ⟨hux 0 (by omega), hux 1 (by omega), hux 2 (by omega), hux 3 (by omega), hux 4 (by omega), hux 5 (by omega)⟩
      rw [hu]
      show _
      simp only [mcO]
      clear hu hux
      obtain ⟨O3, hO⟩ : ∃ O_, O_ = wC.heap.size := ⟨_, rfl⟩
      have HOO3 : Hid (wC.heap.size = O3) := hO.symm
      clear hO
      go_wp2_with (refine wpList_store_mac (.tmp 17) (.tmp 106) rfl rfl wC.heap.size mz u rfl rfl (mac_new wC mz) rfl ?_)
      intro wD hRE kE
      rw [HOO3.out] at hRE kE ⊢
      have bN : Below wC.heap.size wC wD := ((Below.refl _ _).alloc (Nat.le_refl _) _).trans (kE.below (fun q h => by have h' : q = O3 := h; have := HOO3.out; omega) (by rw [World.size_alloc]; omega))
      have HD : Hid (IprAt wD B1 V x ∧ PfxAt wD B2 p ∧ MacAt wD B3 m ∧ Below w.heap.size w wD) := ⟨HC.out.1.below bN, HC.out.2.1.below bN, HC.out.2.2.1.below bN, HC.out.2.2.2.trans (bN.mono HC.out.2.2.2.size)⟩
      have HDo : Hid (MacAt wD O3 u) := hRE
      clear hRE kE bN
      go_wp2_with fail
      refine (started_any wD (HG.out.p.below HD.out.2.2.2) (HG.out.s.old HD.out.2.2.2)).mono ?_
      rintro e wE ⟨rfl, hb⟩
      have HE : Hid (MacAt wE O3 u ∧ MacAt wE B3 m ∧ Below w.heap.size w wE) := ⟨HDo.out.below hb, HD.out.2.2.1.below hb, HD.out.2.2.2.trans (hb.mono HD.out.2.2.2.size)⟩
      clear hb
      go_wp2_with (first | (refine wpList_load_mac (.tmp 17) rfl O3 u rfl HE.out.1 rfl ?_) | (refine wpList_load_mac (.tmp 5) rfl B3 m rfl HE.out.2.1 rfl ?_) | (refine wpList_eql_mac (.tmp 111) (.tmp 112) rfl u m rfl rfl true HMB.out rfl ?_))
      refine (num4_any _ wE).mono ?_
      rintro e wz ⟨rfl, rfl⟩
      go_wp2
      go_ret
      exact ⟨rfl, HE.out.2.2⟩
  | false =>
    rw [prO_no hv]
    have HV : Hid (vld V x = false) := hv
    clear hv
    go_upto_region 2 with fail
    refine MixH.start (fun A => IprAt A B1 V x ∧ PfxAt A B2 p ∧ MacAt A B3 m ∧ Below w.heap.size w A) (by kernel_rfl) ?_
    obtain ⟨wA, hwA⟩ : ∃ W_, W_ = w1.drew := ⟨_, rfl⟩
    have bdr : Below w1.heap.size w1 wA := by rw [hwA]; exact (Below.refl _ _).drew
    have hS : IprAt wA B1 V x ∧ PfxAt wA B2 p ∧ MacAt wA B3 m ∧ Below w.heap.size w wA := ⟨H1.out.1.below bdr, H1.out.2.1.below bdr, H1.out.2.2.1.below bdr, H1.out.2.2.2.trans (bdr.mono H1.out.2.2.2.size)⟩
    rw [← hwA]
    clear hwA bdr
    refine MixH.takes [true] 14 (by kernel_rfl) (by kernel_rfl) (by decide) (by kernel_rfl) hS (fun K hK => ?_)
    simp only [Mix.pick]
    repeat (go_big_quiet_step (fail))
    refine wpQuiet_nil (hK _ ?_)
    clear hK K
    refine MixH.take 13 3 _ (.agg (ipCells V x)) rfl (by kernel_rfl) (by kernel_rfl) (by kernel_rfl) (by kernel_rfl) (yields_ipr (.tmp 3) rfl B1 0 V x rfl rfl (fun A hA => ipr_all hA.1)) hS (fun a' ha => ?_)
    simp only [Act.put, List.setIfInBounds_toArray, List.set_cons_succ, List.set_cons_zero] at ha
    subst ha
    refine MixH.one [false, true] 12 1 _ rfl rfl (by kernel_rfl) (by kernel_rfl) (fun K hK => ?_)
    simp only [Mix.pick]
    go_wp2_with fail
    refine Calls.mono (num4_any _ wA) ?_
    rintro e wz ⟨rfl, rfl⟩
    go_wp2_with fail
    refine ⟨rfl, hK _ _ hS ?_⟩
    clear hK K
    refine MixH.takes [false, false, true] 11 (by kernel_rfl) (by kernel_rfl) (by decide) (by kernel_rfl) hS (fun K hK => ?_)
    simp only [Mix.pick]
    repeat (go_big_quiet_step (fail))
    refine wpQuiet_nil (hK _ ?_)
    clear hK K
    refine MixH.one [false, false, false, false, true] 10 4 _ rfl rfl (by kernel_rfl) (by kernel_rfl) (fun K hK => ?_)
    simp only [Mix.pick]
    go_wp2_with fail
    refine Calls.mono (valid_any V x wA HX.out) ?_
    rintro e wB ⟨rfl, hb⟩
    replace hS : IprAt wB B1 V x ∧ PfxAt wB B2 p ∧ MacAt wB B3 m ∧ Below w.heap.size w wB := ⟨hS.1.below hb, hS.2.1.below hb, hS.2.2.1.below hb, hS.2.2.2.trans (hb.mono hS.2.2.2.size)⟩
    clear hb
    rw [HV.out]
    go_wp2_with fail
    refine ⟨rfl, hK _ _ hS ?_⟩
    clear hK K
    refine MixH.takes [false, false, false, false, false, true, true, true] 7 (by kernel_rfl) (by kernel_rfl) (by decide) (by kernel_rfl) hS (fun K hK => ?_)
    simp only [Mix.pick]
    repeat (go_big_quiet_step (fail))
    refine wpQuiet_nil (hK _ ?_)
    clear hK K
    refine MixH.one [false, false, false, false, false, false, false, false, true] 6 8 _ rfl rfl (by kernel_rfl) (by kernel_rfl) (fun K hK => ?_)
    simp only [Mix.pick]
    go_wp2_with fail
    refine Calls.mono (num4_any _ wB) ?_
    rintro e wz ⟨rfl, rfl⟩
    go_wp2_with fail
    refine ⟨rfl, hK _ _ hS ?_⟩
    clear hK K
    refine MixH.takes [false, false, false, false, false, false, false, false, false, true, true, true] 3 (by kernel_rfl) (by kernel_rfl) (by decide) (by kernel_rfl) hS (fun K hK => ?_)
    simp only [Mix.pick]
    repeat (go_big_quiet_step (fail))
    refine wpQuiet_nil (hK _ ?_)
    clear hK K
    refine MixH.one [false, false, false, false, false, false, false, false, false, false, false, false, true] 2 12 _ rfl rfl (by kernel_rfl) (by kernel_rfl) (fun K hK => ?_)
    simp only [Mix.pick]
    go_wp2
    refine ⟨rfl, hK _ _ hS ?_⟩
    clear hK K
    refine MixH.takes [false, false, false, false, false, false, false, false, false, false, false, false, false, true, true] 0 (by kernel_rfl) (by kernel_rfl) (by decide) (by kernel_rfl) hS (fun K hK => ?_)
    simp only [Mix.pick]
    repeat (go_big_quiet_step (fail))
    refine wpQuiet_nil (hK _ ?_)
    clear hK K
    refine MixH.done (by kernel_rfl) ?_
    have H2 : Hid (IprAt wB B1 V x ∧ PfxAt wB B2 p ∧ MacAt wB B3 m ∧ Below w.heap.size w wB) := hS
    clear hS
    go_wp2_with fail
    refine (num4_any _ wB).mono ?_
    rintro e wz ⟨rfl, rfl⟩
    go_wp2_with (refine wpList_load_pfx (.tmp 4) rfl B2 p rfl H2.out.2.1 rfl ?_)
    refine (printPfx_any p wB HPX.out (HG.out.below H2.out.2.2.2)).mono ?_
    rintro e w5 ⟨rfl, hb⟩
    have H5 : Hid (IprAt w5 B1 V x ∧ PfxAt w5 B2 p ∧ MacAt w5 B3 m ∧ Below w.heap.size w w5) := ⟨H2.out.1.below hb, H2.out.2.1.below hb, H2.out.2.2.1.below hb, H2.out.2.2.2.trans (hb.mono H2.out.2.2.2.size)⟩
    clear hb
    by_cases hq : vpE p = 0
    · rw [pfO_yes hq]
      have HVP : Hid (vpE p = 0) := hq
      clear hq
      go_upto_region 9 with fail
      refine MixH.start (fun A => IprAt A B1 V x ∧ PfxAt A B2 p ∧ MacAt A B3 m ∧ Below w.heap.size w A) (by kernel_rfl) ?_
      obtain ⟨wA, hwA⟩ : ∃ W_, W_ = w5.drew := ⟨_, rfl⟩
      have bdr : Below w5.heap.size w5 wA := by rw [hwA]; exact (Below.refl _ _).drew
      have hS : IprAt wA B1 V x ∧ PfxAt wA B2 p ∧ MacAt wA B3 m ∧ Below w.heap.size w wA := ⟨H5.out.1.below bdr, H5.out.2.1.below bdr, H5.out.2.2.1.below bdr, H5.out.2.2.2.trans (bdr.mono H5.out.2.2.2.size)⟩
      rw [← hwA]
      clear hwA bdr
      refine MixH.takes [true] 14 (by kernel_rfl) (by kernel_rfl) (by decide) (by kernel_rfl) hS (fun K hK => ?_)
      simp only [Mix.pick]
      repeat (go_big_quiet_step (fail))
      refine wpQuiet_nil (hK _ ?_)
      clear hK K
      refine MixH.take 13 2 _ (.agg (pfC p)) rfl (by kernel_rfl) (by kernel_rfl) (by kernel_rfl) (by kernel_rfl) (yields_pfx (.tmp 4) rfl B2 0 p rfl rfl (fun A hA => PfxAt.all hA.2.1)) hS (fun a' ha => ?_)
      simp only [Act.put, List.setIfInBounds_toArray, List.set_cons_succ, List.set_cons_zero] at ha
      subst ha
      refine MixH.one [false, true] 12 1 _ rfl rfl (by kernel_rfl) (by kernel_rfl) (fun K hK => ?_)
      simp only [Mix.pick]
      go_wp2_with fail
      refine Calls.mono (num4_any _ wA) ?_
      rintro e wz ⟨rfl, rfl⟩
      go_wp2_with fail
      refine ⟨rfl, hK _ _ hS ?_⟩
      clear hK K
      refine MixH.one [false, false, false, true] 11 3 _ rfl rfl (by kernel_rfl) (by kernel_rfl) (fun K hK => ?_)
      simp only [Mix.pick]
      go_wp2_with fail
      refine Calls.mono (vpref_any p wA HPX.out) ?_
      rintro e wB ⟨rfl, hb⟩
      replace hS : IprAt wB B1 V x ∧ PfxAt wB B2 p ∧ MacAt wB B3 m ∧ Below w.heap.size w wB := ⟨hS.1.below hb, hS.2.1.below hb, hS.2.2.1.below hb, hS.2.2.2.trans (hb.mono hS.2.2.2.size)⟩
      clear hb
      rw [HVP.out]
      go_wp2_with fail
      refine ⟨rfl, hK _ _ hS ?_⟩
      clear hK K
      refine MixH.one [false, false, false, false, true] 10 4 _ rfl rfl (by kernel_rfl) (by kernel_rfl) (fun K hK => ?_)
      simp only [Mix.pick]
      go_wp2_with fail
      refine Calls.mono (num4_any _ wB) ?_
      rintro e wz ⟨rfl, rfl⟩
      go_wp2_with fail
      refine ⟨rfl, hK _ _ hS ?_⟩
      clear hK K
      refine MixH.takes [false, false, false, false, false, true, true, true] 7 (by kernel_rfl) (by kernel_rfl) (by decide) (by kernel_rfl) hS (fun K hK => ?_)
      simp only [Mix.pick]
      repeat (go_big_quiet_step (fail))
      refine wpQuiet_nil (hK _ ?_)
      clear hK K
      refine MixH.one [false, false, false, false, false, false, false, false, true] 6 8 _ rfl rfl (by kernel_rfl) (by kernel_rfl) (fun K hK => ?_)
      simp only [Mix.pick]
      go_wp2_with fail
      refine Calls.mono (num4_any _ wB) ?_
      rintro e wz ⟨rfl, rfl⟩
      go_wp2_with fail
      refine ⟨rfl, hK _ _ hS ?_⟩
      clear hK K
      refine MixH.takes [false, false, false, false, false, false, false, false, false, true, true, true, true, true, true] 0 (by kernel_rfl) (by kernel_rfl) (by decide) (by kernel_rfl) hS (fun K hK => ?_)
      simp only [Mix.pick]
      repeat (go_big_quiet_step (fail))
      refine wpQuiet_nil (hK _ ?_)
      clear hK K
      refine MixH.done (by kernel_rfl) ?_
      have H6 : Hid (IprAt wB B1 V x ∧ PfxAt wB B2 p ∧ MacAt wB B3 m ∧ Below w.heap.size w wB) := hS
      clear hS
      go_wp2_with fail
      refine (num4_any _ wB).mono ?_
      rintro e wz ⟨rfl, rfl⟩
      obtain ⟨z, hz, hzx⟩ := pf_back HVP.out HPX.out
      have HPF : Hid (pPF (txB (prPF p)) = .inl ⟨p.V, z, p.n⟩ ∧ (((⟨p.V, z, p.n⟩ : PV).V == p.V && same16 (⟨p.V, z, p.n⟩ : PV).x p.x) && (⟨p.V, z, p.n⟩ : PV).n == p.n) = true) := ⟨hz, by simp only [beq_self_eq_true, Bool.true_and, Bool.and_true]; exact (same16_iff z p.x).2 hzx⟩
      clear hz hzx
      go_wp2_with fail
      refine (parsePfx_any (txB (prPF p)) wB).mono ?_
      rintro e w7 ⟨rfl, hb⟩
      have H7 : Hid (IprAt w7 B1 V x ∧ PfxAt w7 B2 p ∧ MacAt w7 B3 m ∧ Below w.heap.size w w7) := ⟨H6.out.1.below hb, H6.out.2.1.below hb, H6.out.2.2.1.below hb, H6.out.2.2.2.trans (hb.mono H6.out.2.2.2.size)⟩
      clear hb
      rw [HPF.out.1]
      show _
      simp only [pxO]
      obtain ⟨pp, hpp⟩ : ∃ pp : PV, pp = ⟨p.V, z, p.n⟩ := ⟨_, rfl⟩
      have HPP : Hid (((pp.V == p.V && same16 pp.x p.x) && pp.n == p.n) = true) := by show _ = _; rw [hpp]; exact HPF.out.2
      rw [← hpp]
      clear hpp
      obtain ⟨O2, hO⟩ : ∃ O_, O_ = w7.heap.size := ⟨_, rfl⟩
      have HOO2 : Hid (w7.heap.size = O2) := hO.symm
      clear hO
      go_wp2_with (refine wpList_store_pfx (.tmp 14) (.tmp 87) rfl rfl w7.heap.size pz pp rfl rfl (pfx_new w7 pz) rfl ?_)
      intro w8 hRE kE
      rw [HOO2.out] at hRE kE ⊢
      have bN : Below w7.heap.size w7 w8 := ((Below.refl _ _).alloc (Nat.le_refl _) _).trans (kE.below (fun q h => by have h' : q = O2 := h; have := HOO2.out; omega) (by rw [World.size_alloc]; omega))
      have H8 : Hid (IprAt w8 B1 V x ∧ PfxAt w8 B2 p ∧ MacAt w8 B3 m ∧ Below w.heap.size w w8) := ⟨H7.out.1.below bN, H7.out.2.1.below bN, H7.out.2.2.1.below bN, H7.out.2.2.2.trans (bN.mono H7.out.2.2.2.size)⟩
      have H8o : Hid (PfxAt w8 O2 pp) := hRE
      clear hRE kE bN
      go_wp2_with (first | (refine wpList_load_pfx (.tmp 14) rfl O2 pp rfl H8o.out rfl ?_) | (refine wpList_load_pfx (.tmp 4) rfl B2 p rfl H8.out.2.1 rfl ?_) | (refine wpList_neq_pfx (.tmp 90) (.tmp 91) rfl pp p rfl rfl HPP.out rfl ?_))
      refine (num4_any _ w8).mono ?_
      rintro e wz ⟨rfl, rfl⟩
      go_wp2_with (refine wpList_load_mac (.tmp 5) rfl B3 m rfl H8.out.2.2.1 rfl ?_)
      refine (printMac_any m w8 HM.out).mono ?_
      rintro e w9 ⟨rfl, hb⟩
      have H9 : Hid (IprAt w9 B1 V x ∧ PfxAt w9 B2 p ∧ MacAt w9 B3 m ∧ Below w.heap.size w w9) := ⟨H8.out.1.below hb, H8.out.2.1.below hb, H8.out.2.2.1.below hb, H8.out.2.2.2.trans (hb.mono H8.out.2.2.2.size)⟩
      clear hb
      go_wp2_with fail
      refine (parseMac_any (txB (prM m 6)) w9).mono ?_
      rintro e wC ⟨rfl, hb⟩
      have HC : Hid (IprAt wC B1 V x ∧ PfxAt wC B2 p ∧ MacAt wC B3 m ∧ Below w.heap.size w wC) := ⟨H9.out.1.below hb, H9.out.2.1.below hb, H9.out.2.2.1.below hb, H9.out.2.2.2.trans (hb.mono H9.out.2.2.2.size)⟩
      clear hb
      obtain ⟨u, hu, hux⟩ := mac_back HM.out
      have HMB : Hid (same6 u m = true) := by
        show _ = _
        unfold same6
        rw [decide_eq_true_iff]
        exact ⟨hux 0 (by omega), hux 1 (by omega), hux 2 (by omega), hux 3 (by omega), hux 4 (by omega), hux 5 (by omega)⟩
      rw [hu]
      show _
      simp only [mcO]
      clear hu hux
      obtain ⟨O3, hO⟩ : ∃ O_, O_ = wC.heap.size := ⟨_, rfl⟩
      have HOO3 : Hid (wC.heap.size = O3) := hO.symm
      clear hO
      go_wp2_with (refine wpList_store_mac (.tmp 17) (.tmp 106) rfl rfl wC.heap.size mz u rfl rfl (mac_new wC mz) rfl ?_)
      intro wD hRE kE
      rw [HOO3.out] at hRE kE ⊢
      have bN : Below wC.heap.size wC wD := ((Below.refl _ _).alloc (Nat.le_refl _) _).trans (kE.below (fun q h => by have h' : q = O3 := h; have := HOO3.out; omega) (by rw [World.size_alloc]; omega))
      have HD : Hid (IprAt wD B1 V x ∧ PfxAt wD B2 p ∧ MacAt wD B3 m ∧ Below w.heap.size w wD) := ⟨HC.out.1.below bN, HC.out.2.1.below bN, HC.out.2.2.1.below bN, HC.out.2.2.2.trans (bN.mono HC.out.2.2.2.size)⟩
      have HDo : Hid (MacAt wD O3 u) := hRE
      clear hRE kE bN
      go_wp2_with fail
      refine (started_any wD (HG.out.p.below HD.out.2.2.2) (HG.out.s.old HD.out.2.2.2)).mono ?_
      rintro e wE ⟨rfl, hb⟩
      have HE : Hid (MacAt wE O3 u ∧ MacAt wE B3 m ∧ Below w.heap.size w wE) := ⟨HDo.out.below hb, HD.out.2.2.1.below hb, HD.out.2.2.2.trans (hb.mono HD.out.2.2.2.size)⟩
      clear hb
      go_wp2_with (first | (refine wpList_load_mac (.tmp 17) rfl O3 u rfl HE.out.1 rfl ?_) | (refine wpList_load_mac (.tmp 5) rfl B3 m rfl HE.out.2.1 rfl ?_) | (refine wpList_eql_mac (.tmp 111) (.tmp 112) rfl u m rfl rfl true HMB.out rfl ?_))
      refine (num4_any _ wE).mono ?_
      rintro e wz ⟨rfl, rfl⟩
      go_wp2
      go_ret
      exact ⟨rfl, HE.out.2.2⟩
    · rw [pfO_no hq]
      obtain ⟨e0, he0⟩ : ∃ e0, vpE p = e0 := ⟨_, rfl⟩
      have HVP : Hid (vpE p = e0) := he0
      rw [he0] at hq ⊢
      have q0 : (((e0 : Nat) : Int) != 0) = true := by simp [hq]
      have q1 : (((e0 : Nat) : Int) == 0) = false := by simp [hq]
      clear hq he0
      go_upto_region 9 with fail
      refine MixH.start (fun A => IprAt A B1 V x ∧ PfxAt A B2 p ∧ MacAt A B3 m ∧ Below w.heap.size w A) (by kernel_rfl) ?_
      obtain ⟨wA, hwA⟩ : ∃ W_, W_ = w5.drew := ⟨_, rfl⟩
      have bdr : Below w5.heap.size w5 wA := by rw [hwA]; exact (Below.refl _ _).drew
      have hS : IprAt wA B1 V x ∧ PfxAt wA B2 p ∧ MacAt wA B3 m ∧ Below w.heap.size w wA := ⟨H5.out.1.below bdr, H5.out.2.1.below bdr, H5.out.2.2.1.below bdr, H5.out.2.2.2.trans (bdr.mono H5.out.2.2.2.size)⟩
      rw [← hwA]
      clear hwA bdr
      refine MixH.takes [true] 14 (by kernel_rfl) (by kernel_rfl) (by decide) (by kernel_rfl) hS (fun K hK => ?_)
      simp only [Mix.pick]
      repeat (go_big_quiet_step (fail))
      refine wpQuiet_nil (hK _ ?_)
      clear hK K
      refine MixH.take 13 2 _ (.agg (pfC p)) rfl (by kernel_rfl) (by kernel_rfl) (by kernel_rfl) (by kernel_rfl) (yields_pfx (.tmp 4) rfl B2 0 p rfl rfl (fun A hA => PfxAt.all hA.2.1)) hS (fun a' ha => ?_)
      simp only [Act.put, List.setIfInBounds_toArray, List.set_cons_succ, List.set_cons_zero] at ha
      subst ha
      refine MixH.one [false, true] 12 1 _ rfl rfl (by kernel_rfl) (by kernel_rfl) (fun K hK => ?_)
      simp only [Mix.pick]
      go_wp2_with fail
      refine Calls.mono (num4_any _ wA) ?_
      rintro e wz ⟨rfl, rfl⟩
      go_wp2_with fail
      refine ⟨rfl, hK _ _ hS ?_⟩
      clear hK K
      refine MixH.one [false, false, false, true] 11 3 _ rfl rfl (by kernel_rfl) (by kernel_rfl) (fun K hK => ?_)
      simp only [Mix.pick]
      go_wp2_with fail
      refine Calls.mono (vpref_any p wA HPX.out) ?_
      rintro e wB ⟨rfl, hb⟩
      replace hS : IprAt wB B1 V x ∧ PfxAt wB B2 p ∧ MacAt wB B3 m ∧ Below w.heap.size w wB := ⟨hS.1.below hb, hS.2.1.below hb, hS.2.2.1.below hb, hS.2.2.2.trans (hb.mono hS.2.2.2.size)⟩
      clear hb
      rw [HVP.out]
      go_wp2_with fail
      refine ⟨rfl, hK _ _ hS ?_⟩
      clear hK K
      refine MixH.one [false, false, false, false, true] 10 4 _ rfl rfl (by kernel_rfl) (by kernel_rfl) (fun K hK => ?_)
      simp only [Mix.pick]
      go_wp2_with fail
      refine Calls.mono (num4_any _ wB) ?_
      rintro e wz ⟨rfl, rfl⟩
      go_wp2_with fail
      refine ⟨rfl, hK _ _ hS ?_⟩
      clear hK K
      refine MixH.takes [false, false, false, false, false, true, true, true] 7 (by kernel_rfl) (by kernel_rfl) (by decide) (by kernel_rfl) hS (fun K hK => ?_)
      simp only [Mix.pick]
      repeat (go_big_quiet_step (fail))
      refine wpQuiet_nil (hK _ ?_)
      clear hK K
      refine MixH.one [false, false, false, false, false, false, false, false, true] 6 8 _ rfl rfl (by kernel_rfl) (by kernel_rfl) (fun K hK => ?_)
      simp only [Mix.pick]
      go_wp2_with fail
      refine Calls.mono (num4_any _ wB) ?_
      rintro e wz ⟨rfl, rfl⟩
      go_wp2_with fail
      refine ⟨rfl, hK _ _ hS ?_⟩
      clear hK K
      refine MixH.takes [false, false, false, false, false, false, false, false, false, true, true, true] 3 (by kernel_rfl) (by kernel_rfl) (by decide) (by kernel_rfl) hS (fun K hK => ?_)
      simp only [Mix.pick]
      repeat (go_big_quiet_step (fail))
      refine wpQuiet_nil (hK _ ?_)
      clear hK K
      refine MixH.one [false, false, false, false, false, false, false, false, false, false, false, false, true] 2 12 _ rfl rfl (by kernel_rfl) (by kernel_rfl) (fun K hK => ?_)
      simp only [Mix.pick]
      go_wp2
      refine ⟨rfl, hK _ _ hS ?_⟩
      clear hK K
      refine MixH.takes [false, false, false, false, false, false, false, false, false, false, false, false, false, true, true] 0 (by kernel_rfl) (by kernel_rfl) (by decide) (by kernel_rfl) hS (fun K hK => ?_)
      simp only [Mix.pick]
      repeat (go_big_quiet_step (fail))
      refine wpQuiet_nil (hK _ ?_)
      clear hK K
      refine MixH.done (by kernel_rfl) ?_
      have H6 : Hid (IprAt wB B1 V x ∧ PfxAt wB B2 p ∧ MacAt wB B3 m ∧ Below w.heap.size w wB) := hS
      clear hS
      go_wp2_with fail
      refine (num4_any _ wB).mono ?_
      rintro e wz ⟨rfl, rfl⟩
      go_wp2_with (refine wpList_load_mac (.tmp 5) rfl B3 m rfl H6.out.2.2.1 rfl ?_)
      refine (printMac_any m wB HM.out).mono ?_
      rintro e w9 ⟨rfl, hb⟩
      have H9 : Hid (IprAt w9 B1 V x ∧ PfxAt w9 B2 p ∧ MacAt w9 B3 m ∧ Below w.heap.size w w9) := ⟨H6.out.1.below hb, H6.out.2.1.below hb, H6.out.2.2.1.below hb, H6.out.2.2.2.trans (hb.mono H6.out.2.2.2.size)⟩
      clear hb
      go_wp2_with fail
      refine (parseMac_any (txB (prM m 6)) w9).mono ?_
      rintro e wC ⟨rfl, hb⟩
      have HC : Hid (IprAt wC B1 V x ∧ PfxAt wC B2 p ∧ MacAt wC B3 m ∧ Below w.heap.size w wC) := ⟨H9.out.1.below hb, H9.out.2.1.below hb, H9.out.2.2.1.below hb, H9.out.2.2.2.trans (hb.mono H9.out.2.2.2.size)⟩
      clear hb
      obtain ⟨u, hu, hux⟩ := mac_back HM.out
      have HMB : Hid (same6 u m = true) := by
        show _ = _
        unfold same6
        rw [decide_eq_true_iff]
        exact ⟨hux 0 (by omega), hux 1 (by omega), hux 2 (by omega), hux 3 (by omega), hux 4 (by omega), hux 5 (by omega)⟩
      rw [hu]
      show _
      simp only [mcO]
      clear hu hux
      obtain ⟨O3, hO⟩ : ∃ O_, O_ = wC.heap.size := ⟨_, rfl⟩
      have HOO3 : Hid (wC.heap.size = O3) := hO.symm
      clear hO
      go_wp2_with (refine wpList_store_mac (.tmp 17) (.tmp 106) rfl rfl wC.heap.size mz u rfl rfl (mac_new wC mz) rfl ?_)
      intro wD hRE kE
      rw [HOO3.out] at hRE kE ⊢
      have bN : Below wC.heap.size wC wD := ((Below.refl _ _).alloc (Nat.le_refl _) _).trans (kE.below (fun q h => by have h' : q = O3 := h; have := HOO3.out; omega) (by rw [World.size_alloc]; omega))
      have HD : Hid (IprAt wD B1 V x ∧ PfxAt wD B2 p ∧ MacAt wD B3 m ∧ Below w.heap.size w wD) := ⟨HC.out.1.below bN, HC.out.2.1.below bN, HC.out.2.2.1.below bN, HC.out.2.2.2.trans (bN.mono HC.out.2.2.2.size)⟩
      have HDo : Hid (MacAt wD O3 u) := hRE
      clear hRE kE bN
      go_wp2_with fail
      refine (started_any wD (HG.out.p.below HD.out.2.2.2) (HG.out.s.old HD.out.2.2.2)).mono ?_
      rintro e wE ⟨rfl, hb⟩
      have HE : Hid (MacAt wE O3 u ∧ MacAt wE B3 m ∧ Below w.heap.size w wE) := ⟨HDo.out.below hb, HD.out.2.2.1.below hb, HD.out.2.2.2.trans (hb.mono HD.out.2.2.2.size)⟩
      clear hb
      go_wp2_with (first | (refine wpList_load_mac (.tmp 17) rfl O3 u rfl HE.out.1 rfl ?_) | (refine wpList_load_mac (.tmp 5) rfl B3 m rfl HE.out.2.1 rfl ?_) | (refine wpList_eql_mac (.tmp 111) (.tmp 112) rfl u m rfl rfl true HMB.out rfl ?_))
      refine (num4_any _ wE).mono ?_
      rintro e wz ⟨rfl, rfl⟩
      go_wp2
      go_ret
      exact ⟨rfl, HE.out.2.2⟩
end Go.Proofs.YtfeabifjnihooaaDoor
