/-
  weirlaw4.AddrUnlike: the walk.
-/
import Derived.Test.YtfeabifjnihooaaDoorAdSta
import Derived.Test.YtfeabifjnihooaaDoorAdU
namespace Go.Proofs.YtfeabifjnihooaaDoor
open Go.RowKit Go.Maps

theorem wpList_eql_ipb {ops : Array Oper} {rest : List Oper} {o : Oper} {a : Act} {w : World} {Q : Exit → Act → World → Prop} (X Y : Operand) (ho : o.op = .binOp .eql 27 X Y 27) (V U : Int) (x y : Nat → Nat) (hx : a.eval X = .agg (ipCells V x)) (hy : a.eval Y = .agg (ipCells U y)) (b : Bool) (hbb : (V == U && same16 x y) = b)
    (hw : Region.wanted o (yielded ops a.tmps) = true) (h : wpList Tryd.prog ops Q rest (a.put o.dst (.bool b)) w) : wpList Tryd.prog ops Q (o :: rest) a w := by
  subst hbb
  exact wpList_eql_ip X Y ho V U x y hx hy hw h
theorem Tryd.pfxFields : Tryd.prog.underlying 37 = some (.struct (Tryd.prog.fieldsOf 37)) := by kernel_rfl
theorem Tryd.pfxStood : Tryd.prog.stoodInHeld 37 = false := by kernel_rfl
theorem Tryd.pfxGuard : Tryd.prog.eqGuardType Tryd.prog.depth 37 = false := by kernel_rfl
theorem pfx_part0 (p : PV) (w : World) : (part 27 (pfC p) 0).run Tryd.prog w = .ok (.agg (ipCells p.V p.x)) w := by kernel_rfl
theorem pfx_part17 (p : PV) (w : World) : (part 3 (pfC p) 17).run Tryd.prog w = .ok (.int .i64 p.n) w := by kernel_rfl
set_option maxHeartbeats 1600000 in
set_option maxRecDepth 100000 in
theorem eq_pfx (p q : PV) (w : World) : (Op.equalIn 10000 37 (.agg (pfC p)) (.agg (pfC q))).run Tryd.prog w = .ok ((p.V == q.V && same16 p.x q.x) && p.n == q.n) w := by
  rw [show (10000 : Nat) = 9999 + 1 from rfl, run_equalIn_struct w 9999 37 _ _ Tryd.pfxFields Tryd.pfxStood]
  rw [show (Tryd.prog.fieldsOf 37).toList = [{ name := "IP", type := 27, offset := 0, embedded := false, tag := "", pkgPath := "", byteOffset := 0 }, { name := "Len", type := 3, offset := 17, embedded := false, tag := "", pkgPath := "", byteOffset := 24 }] from by kernel_rfl]
  have ii : (Op.equalIn 9999 3 (.int .i64 p.n) (.int .i64 q.n)).run Tryd.prog w = .ok (p.n == q.n) w := by
    rw [show (9999 : Nat) = 9998 + 1 from rfl, run_equalIn_int w 9998 3 .i64 .i64 p.n q.n Tryd.underlying3]
  have ip : (Op.equalIn 9999 27 (.agg (ipCells p.V p.x)) (.agg (ipCells q.V q.x))).run Tryd.prog w = .ok (p.V == q.V && same16 p.x q.x) w := eqIP p.V q.V p.x q.x w 9996
  cases hb : (p.V == q.V && same16 p.x q.x) with
  | true =>
    rw [hb] at ip
    cases hn : (p.n == q.n) <;> rw [hn] at ii <;> simp [Op.eqFields, Sem.run_bind, Sem.run_ite, pfx_part0, pfx_part17, ii, ip]
  | false =>
    rw [hb] at ip
    simp [Op.eqFields, Sem.run_bind, Sem.run_ite, pfx_part0, pfx_part17, ip]
theorem wpList_eql_pfx {ops : Array Oper} {rest : List Oper} {o : Oper} {a : Act} {w : World} {Q : Exit → Act → World → Prop} (X Y : Operand) (ho : o.op = .binOp .eql 37 X Y 37) (p q : PV) (hx : a.eval X = .agg (pfC p)) (hy : a.eval Y = .agg (pfC q)) (b : Bool) (hbb : ((p.V == q.V && same16 p.x q.x) && p.n == q.n) = b)
    (hw : Region.wanted o (yielded ops a.tmps) = true) (hh : wpList Tryd.prog ops Q rest (a.put o.dst (.bool b)) w) : wpList Tryd.prog ops Q (o :: rest) a w := by
  refine wpList_step fun K hK => ?_
  rw [if_pos hw]
  have hrun : (execOp a.eval o).run Tryd.prog w = .ok (.value (.bool b)) w := by
    subst hbb
    obtain ⟨dst, op, type, pos, after, guard⟩ := o
    simp only at ho
    subst ho
    simp only [execOp, Sem.run_bind, Sem.run_pure, hx, hy, run_eqGuard_agg w .eql 37 _ _ _ _ Tryd.pfxGuard, Result.andThen_ok, run_eql_struct, eq_pfx]
  unfold Oper.wp
  rw [hrun]
  exact hK _ _ hh
theorem wpList_neq_bb {ops : Array Oper} {rest : List Oper} {o : Oper} {a : Act} {w : World} {Q : Exit → Act → World → Prop} (X Y : Operand) (ho : o.op = .binOp .neq 4 X Y 4) (b c : Bool) (hx : a.eval X = .bool b) (hy : a.eval Y = .bool c) (hbc : b = c) (hw : Region.wanted o (yielded ops a.tmps) = true)
    (h : wpList Tryd.prog ops Q rest (a.put o.dst (.bool false)) w) : wpList Tryd.prog ops Q (o :: rest) a w := by
  subst hbc
  refine wpList_step fun K hK => ?_
  rw [if_pos hw]
  have hrun : (execOp a.eval o).run Tryd.prog w = .ok (.value (.bool false)) w := by
    obtain ⟨dst, op, type, pos, after, guard⟩ := o
    simp only at ho
    subst ho
    simp only [execOp, hx, hy]
    go_simp
  unfold Oper.wp
  rw [hrun]
  exact hK _ _ h
theorem yields_eql_mac {ops : Array Oper} {o : Oper} {a : Act} {S : World → Prop} (X Y : Operand) (ho : o.op = .binOp .eql 42 X Y 42) (x y : Nat → Nat) (hx : a.eval X = .agg (macC x)) (hy : a.eval Y = .agg (macC y)) (hw : Region.wanted o (yielded ops a.tmps) = true) : YieldsIf Tryd.prog ops S o (.bool (same6 x y)) a := by
  refine .inl ⟨hw, fun w _ => ?_⟩
  obtain ⟨dst, op, type, pos, after, guard⟩ := o
  simp only at ho
  subst ho
  simp only [execOp, Sem.run_bind, Sem.run_pure, hx, hy, run_eqGuard_agg w .eql 42 _ _ _ _ Tryd.macGuard, Result.andThen_ok, run_eql_struct, eq6 x y w 9998]
theorem MacAt.all {w : World} {O : Nat} {m : Nat → Nat} (h : MacAt w O m) : w.rangeAt O 0 (macC m).toList := by
  have k := h.range 0 6
  exact k
theorem prO_tuple (V : Int) (x : Nat → Nat) : ∃ s e, prO V x = .tuple #[.string s, .int .i64 e] := by unfold prO; split <;> exact ⟨_, _, rfl⟩
theorem pfO_tuple (p : PV) : ∃ s e, pfO p = .tuple #[.string s, .int .i64 e] := by unfold pfO; split <;> exact ⟨_, _, rfl⟩
set_option maxHeartbeats 16000000 in
set_option maxRecDepth 100000 in
theorem addrUnlike.walk (w : World) (hT : Gl4 w) (V : Int) (x : Nat → Nat) (hx : ∀ i, i < 16 → x i < 256) (U : Int) (y : Nat → Nat) (hy : ∀ i, i < 16 → y i < 256) (p : PV) (hpx : ∀ i, i < 16 → p.x i < 256) (q : PV) (hqx : ∀ i, i < 16 → q.x i < 256) (m : Nat → Nat) (hm : ∀ i, i < 6 → m i < 256) (n : Nat → Nat) (hn : ∀ i, i < 6 → n i < 256) : Calls Tryd.prog 5 #[.agg (ipCells V x), .agg (ipCells U y), .agg (pfC p), .agg (pfC q), .agg (macC m), .agg (macC n)] w fun r w' => r = .returned (.bool true) ∧ Below w.heap.size w w' := by
  have HG : Hid (Gl4 w) := hT
  have HX : Hid (∀ i, i < 16 → x i < 256) := hx
  have HY : Hid (∀ i, i < 16 → y i < 256) := hy
  have HPX : Hid (∀ i, i < 16 → p.x i < 256) := hpx
  have HQX : Hid (∀ i, i < 16 → q.x i < 256) := hqx
  have HM : Hid (∀ i, i < 6 → m i < 256) := hm
  have HN : Hid (∀ i, i < 6 → n i < 256) := hn
  clear hT hx hy hpx hqx hm hn
  have hb := ipr_new w V x
  have bel : Below w.heap.size w (w.alloc (.cells (ipCells V x) 27)) := (Below.refl _ _).alloc (Nat.le_refl _) _
  obtain ⟨CX, hC⟩ : ∃ C, C = ipCells V x := ⟨_, rfl⟩
  obtain ⟨Y1, hW⟩ : ∃ W_, W_ = w.alloc (.cells (ipCells V x) 27) := ⟨_, rfl⟩
  rw [← hW] at hb bel
  have HSZX : Hid (Y1.heap.size = w.heap.size + 1) := by show _ = _; rw [hW, World.size_alloc]
  obtain ⟨B1, hB⟩ : ∃ B, B = w.heap.size := ⟨_, rfl⟩
  rw [← hB] at hb
  have HBX : Hid (IprAt Y1 B1 V x) := hb
  rw [← hC] at hW ⊢
  have HOX : Hid (w.heap.size = B1) := hB.symm
  have HLX : Hid (Below w.heap.size w Y1) := bel
  have HWX : Hid (w.alloc (.cells CX 27) = Y1) := hW.symm
  clear hb hW hB hC bel
  have hb := ipr_new Y1 U y
  have bel : Below Y1.heap.size Y1 (Y1.alloc (.cells (ipCells U y) 27)) := (Below.refl _ _).alloc (Nat.le_refl _) _
  obtain ⟨CY, hC⟩ : ∃ C, C = ipCells U y := ⟨_, rfl⟩
  obtain ⟨Y2, hW⟩ : ∃ W_, W_ = Y1.alloc (.cells (ipCells U y) 27) := ⟨_, rfl⟩
  rw [← hW] at hb bel
  have HSZY : Hid (Y2.heap.size = Y1.heap.size + 1) := by show _ = _; rw [hW, World.size_alloc]
  obtain ⟨B2, hB⟩ : ∃ B, B = Y1.heap.size := ⟨_, rfl⟩
  rw [← hB] at hb
  have HBY : Hid (IprAt Y2 B2 U y) := hb
  rw [← hC] at hW ⊢
  have HOY : Hid (Y1.heap.size = B2) := hB.symm
  have HLY : Hid (Below Y1.heap.size Y1 Y2) := bel
  have HWY : Hid (Y1.alloc (.cells CY 27) = Y2) := hW.symm
  clear hb hW hB hC bel
  have hb := pfx_new Y2 p
  have bel : Below Y2.heap.size Y2 (Y2.alloc (.cells (pfC p) 37)) := (Below.refl _ _).alloc (Nat.le_refl _) _
  obtain ⟨CP, hC⟩ : ∃ C, C = pfC p := ⟨_, rfl⟩
  obtain ⟨Y3, hW⟩ : ∃ W_, W_ = Y2.alloc (.cells (pfC p) 37) := ⟨_, rfl⟩
  rw [← hW] at hb bel
  have HSZP : Hid (Y3.heap.size = Y2.heap.size + 1) := by show _ = _; rw [hW, World.size_alloc]
  obtain ⟨B3, hB⟩ : ∃ B, B = Y2.heap.size := ⟨_, rfl⟩
  rw [← hB] at hb
  have HBP : Hid (PfxAt Y3 B3 p) := hb
  rw [← hC] at hW ⊢
  have HOP : Hid (Y2.heap.size = B3) := hB.symm
  have HLP : Hid (Below Y2.heap.size Y2 Y3) := bel
  have HWP : Hid (Y2.alloc (.cells CP 37) = Y3) := hW.symm
  clear hb hW hB hC bel
  have hb := pfx_new Y3 q
  have bel : Below Y3.heap.size Y3 (Y3.alloc (.cells (pfC q) 37)) := (Below.refl _ _).alloc (Nat.le_refl _) _
  obtain ⟨CQ, hC⟩ : ∃ C, C = pfC q := ⟨_, rfl⟩
  obtain ⟨Y4, hW⟩ : ∃ W_, W_ = Y3.alloc (.cells (pfC q) 37) := ⟨_, rfl⟩
  rw [← hW] at hb bel
  have HSZQ : Hid (Y4.heap.size = Y3.heap.size + 1) := by show _ = _; rw [hW, World.size_alloc]
  obtain ⟨B4, hB⟩ : ∃ B, B = Y3.heap.size := ⟨_, rfl⟩
  rw [← hB] at hb
  have HBQ : Hid (PfxAt Y4 B4 q) := hb
  rw [← hC] at hW ⊢
  have HOQ : Hid (Y3.heap.size = B4) := hB.symm
  have HLQ : Hid (Below Y3.heap.size Y3 Y4) := bel
  have HWQ : Hid (Y3.alloc (.cells CQ 37) = Y4) := hW.symm
  clear hb hW hB hC bel
  have hb := mac_new Y4 m
  have bel : Below Y4.heap.size Y4 (Y4.alloc (.cells (macC m) 42)) := (Below.refl _ _).alloc (Nat.le_refl _) _
  obtain ⟨CM, hC⟩ : ∃ C, C = macC m := ⟨_, rfl⟩
  obtain ⟨Y5, hW⟩ : ∃ W_, W_ = Y4.alloc (.cells (macC m) 42) := ⟨_, rfl⟩
  rw [← hW] at hb bel
  have HSZM : Hid (Y5.heap.size = Y4.heap.size + 1) := by show _ = _; rw [hW, World.size_alloc]
  obtain ⟨B5, hB⟩ : ∃ B, B = Y4.heap.size := ⟨_, rfl⟩
  rw [← hB] at hb
  have HBM : Hid (MacAt Y5 B5 m) := hb
  rw [← hC] at hW ⊢
  have HOM : Hid (Y4.heap.size = B5) := hB.symm
  have HLM : Hid (Below Y4.heap.size Y4 Y5) := bel
  have HWM : Hid (Y4.alloc (.cells CM 42) = Y5) := hW.symm
  clear hb hW hB hC bel
  have hb := mac_new Y5 n
  have bel : Below Y5.heap.size Y5 (Y5.alloc (.cells (macC n) 42)) := (Below.refl _ _).alloc (Nat.le_refl _) _
  obtain ⟨CN, hC⟩ : ∃ C, C = macC n := ⟨_, rfl⟩
  obtain ⟨Y6, hW⟩ : ∃ W_, W_ = Y5.alloc (.cells (macC n) 42) := ⟨_, rfl⟩
  rw [← hW] at hb bel
  have HSZN : Hid (Y6.heap.size = Y5.heap.size + 1) := by show _ = _; rw [hW, World.size_alloc]
  obtain ⟨B6, hB⟩ : ∃ B, B = Y5.heap.size := ⟨_, rfl⟩
  rw [← hB] at hb
  have HBN : Hid (MacAt Y6 B6 n) := hb
  rw [← hC] at hW ⊢
  have HON : Hid (Y5.heap.size = B6) := hB.symm
  have HLN : Hid (Below Y5.heap.size Y5 Y6) := bel
  have HWN : Hid (Y5.alloc (.cells CN 42) = Y6) := hW.symm
  clear hb hW hB hC bel
  have HD2 : Hid (B1 + 1 = B2) := by have h1 := HSZX.out; have h2 := HOX.out; have h3 := HOY.out; show _ = _; omega
  have HD3 : Hid (B2 + 1 = B3) := by have h1 := HSZY.out; have h2 := HOY.out; have h3 := HOP.out; show _ = _; omega
  have HD4 : Hid (B3 + 1 = B4) := by have h1 := HSZP.out; have h2 := HOP.out; have h3 := HOQ.out; show _ = _; omega
  have HD5 : Hid (B4 + 1 = B5) := by have h1 := HSZQ.out; have h2 := HOQ.out; have h3 := HOM.out; show _ = _; omega
  have HD6 : Hid (B5 + 1 = B6) := by have h1 := HSZM.out; have h2 := HOM.out; have h3 := HON.out; show _ = _; omega
  have H0 : Hid (IprAt Y6 B1 V x ∧ IprAt Y6 B2 U y ∧ PfxAt Y6 B3 p ∧ PfxAt Y6 B4 q ∧ MacAt Y6 B5 m ∧ MacAt Y6 B6 n ∧ Below w.heap.size w Y6) := ⟨(((((HBX.out.below HLY.out).below HLP.out).below HLQ.out).below HLM.out).below HLN.out), ((((HBY.out.below HLP.out).below HLQ.out).below HLM.out).below HLN.out), (((HBP.out.below HLQ.out).below HLM.out).below HLN.out), ((HBQ.out.below HLM.out).below HLN.out), (HBM.out.below HLN.out), HBN.out, (((((HLX.out.trans (HLY.out.mono HLX.out.size)).trans (HLP.out.mono (HLX.out.trans (HLY.out.mono HLX.out.size)).size)).trans (HLQ.out.mono ((HLX.out.trans (HLY.out.mono HLX.out.size)).trans (HLP.out.mono (HLX.out.trans (HLY.out.mono HLX.out.size)).size)).size)).trans (HLM.out.mono (((HLX.out.trans (HLY.out.mono HLX.out.size)).trans (HLP.out.mono (HLX.out.trans (HLY.out.mono HLX.out.size)).size)).trans (HLQ.out.mono ((HLX.out.trans (HLY.out.mono HLX.out.size)).trans (HLP.out.mono (HLX.out.trans (HLY.out.mono HLX.out.size)).size)).size)).size)).trans (HLN.out.mono ((((HLX.out.trans (HLY.out.mono HLX.out.size)).trans (HLP.out.mono (HLX.out.trans (HLY.out.mono HLX.out.size)).size)).trans (HLQ.out.mono ((HLX.out.trans (HLY.out.mono HLX.out.size)).trans (HLP.out.mono (HLX.out.trans (HLY.out.mono HLX.out.size)).size)).size)).trans (HLM.out.mono (((HLX.out.trans (HLY.out.mono HLX.out.size)).trans (HLP.out.mono (HLX.out.trans (HLY.out.mono HLX.out.size)).size)).trans (HLQ.out.mono ((HLX.out.trans (HLY.out.mono HLX.out.size)).trans (HLP.out.mono (HLX.out.trans (HLY.out.mono HLX.out.size)).size)).size)).size)).size))⟩
  go_enter Tryd.func5, Tryd.ntmps5
  go_upto_region 1 with fail
  rw [HOX.out, HWX.out, HWY.out, HWP.out, HWQ.out, HWM.out, HWN.out]
  rw [HD2.out, HD3.out, HD4.out, HD5.out, HD6.out]
  go_wp2_with (refine wpList_load_ipr (.tmp 6) rfl B1 V x rfl H0.out.1 rfl ?_)
  refine (printIP_any V x Y6 HX.out (HG.out.below H0.out.2.2.2.2.2.2)).mono ?_
  rintro e w1 ⟨rfl, hb⟩
  have H1 : Hid (IprAt w1 B1 V x ∧ IprAt w1 B2 U y ∧ PfxAt w1 B3 p ∧ PfxAt w1 B4 q ∧ MacAt w1 B5 m ∧ MacAt w1 B6 n ∧ Below w.heap.size w w1) := ⟨H0.out.1.below hb, H0.out.2.1.below hb, H0.out.2.2.1.below hb, H0.out.2.2.2.1.below hb, H0.out.2.2.2.2.1.below hb, H0.out.2.2.2.2.2.1.below hb, H0.out.2.2.2.2.2.2.trans (hb.mono H0.out.2.2.2.2.2.2.size)⟩
  clear hb
  by_cases hv : vld V x = true
  · rw [prO_yes hv]
    have HV : Hid (vld V x = true) := hv
    clear hv
    go_wp2_with (refine wpList_load_ipr (.tmp 7) rfl B2 U y rfl H1.out.2.1 rfl ?_)
    refine (printIP_any U y w1 HY.out (HG.out.below H1.out.2.2.2.2.2.2)).mono ?_
    rintro e w2 ⟨rfl, hb⟩
    have H2 : Hid (IprAt w2 B1 V x ∧ IprAt w2 B2 U y ∧ PfxAt w2 B3 p ∧ PfxAt w2 B4 q ∧ MacAt w2 B5 m ∧ MacAt w2 B6 n ∧ Below w.heap.size w w2) := ⟨H1.out.1.below hb, H1.out.2.1.below hb, H1.out.2.2.1.below hb, H1.out.2.2.2.1.below hb, H1.out.2.2.2.2.1.below hb, H1.out.2.2.2.2.2.1.below hb, H1.out.2.2.2.2.2.2.trans (hb.mono H1.out.2.2.2.2.2.2.size)⟩
    clear hb
    by_cases hu : vld U y = true
    · rw [prO_yes hu]
      have HU : Hid (vld U y = true) := hu
      obtain ⟨b1, hb1⟩ : ∃ b1, (V == U && same16 x y) = b1 := ⟨_, rfl⟩
      have HB1 : Hid ((V == U && same16 x y) = b1) := hb1
      have HQB : Hid (((txB (prIP V x)).toList == (txB (prIP U y)).toList) = b1) := (ip_beq HV.out hu HX.out HY.out).trans hb1
      clear hu hb1
      go_wp2_with fail
      refine (num4_any _ w2).mono ?_
      rintro e wz ⟨rfl, rfl⟩
      go_wp2_with fail
      refine (num4_any _ w2).mono ?_
      rintro e wz ⟨rfl, rfl⟩
      go_wp2_with (first | (refine wpList_load_ipr (.tmp 6) rfl B1 V x rfl H2.out.1 rfl ?_) | (refine wpList_load_ipr (.tmp 7) rfl B2 U y rfl H2.out.2.1 rfl ?_) | (refine wpList_eql_ipb (.tmp 43) (.tmp 44) rfl V U x y rfl rfl b1 HB1.out rfl ?_) | (refine wpList_neq_bb (.tmp 42) (.tmp 45) rfl ((txB (prIP V x)).toList == (txB (prIP U y)).toList) b1 rfl rfl HQB.out rfl ?_) | (refine wpList_load_pfx (.tmp 8) rfl B3 p rfl H2.out.2.2.1 rfl ?_))
      refine (printPfx_any p w2 HPX.out (HG.out.below H2.out.2.2.2.2.2.2)).mono ?_
      rintro e w3 ⟨rfl, hb⟩
      have H3 : Hid (IprAt w3 B1 V x ∧ IprAt w3 B2 U y ∧ PfxAt w3 B3 p ∧ PfxAt w3 B4 q ∧ MacAt w3 B5 m ∧ MacAt w3 B6 n ∧ Below w.heap.size w w3) := ⟨H2.out.1.below hb, H2.out.2.1.below hb, H2.out.2.2.1.below hb, H2.out.2.2.2.1.below hb, H2.out.2.2.2.2.1.below hb, H2.out.2.2.2.2.2.1.below hb, H2.out.2.2.2.2.2.2.trans (hb.mono H2.out.2.2.2.2.2.2.size)⟩
      clear hb
      by_cases hp : vpE p = 0
      · rw [pfO_yes hp]
        have HVP : Hid (vpE p = 0) := hp
        clear hp
        go_wp2_with (refine wpList_load_pfx (.tmp 9) rfl B4 q rfl H3.out.2.2.2.1 rfl ?_)
        refine (printPfx_any q w3 HQX.out (HG.out.below H3.out.2.2.2.2.2.2)).mono ?_
        rintro e w4 ⟨rfl, hb⟩
        have H4 : Hid (IprAt w4 B1 V x ∧ IprAt w4 B2 U y ∧ PfxAt w4 B3 p ∧ PfxAt w4 B4 q ∧ MacAt w4 B5 m ∧ MacAt w4 B6 n ∧ Below w.heap.size w w4) := ⟨H3.out.1.below hb, H3.out.2.1.below hb, H3.out.2.2.1.below hb, H3.out.2.2.2.1.below hb, H3.out.2.2.2.2.1.below hb, H3.out.2.2.2.2.2.1.below hb, H3.out.2.2.2.2.2.2.trans (hb.mono H3.out.2.2.2.2.2.2.size)⟩
        clear hb
        by_cases hq : vpE q = 0
        · rw [pfO_yes hq]
          have HVQ : Hid (vpE q = 0) := hq
          obtain ⟨b2, hb2⟩ : ∃ b2, ((p.V == q.V && same16 p.x q.x) && p.n == q.n) = b2 := ⟨_, rfl⟩
          have HB2 : Hid (((p.V == q.V && same16 p.x q.x) && p.n == q.n) = b2) := hb2
          have HQP : Hid (((txB (prPF p)).toList == (txB (prPF q)).toList) = b2) := (pf_beq HVP.out hq HPX.out HQX.out).trans hb2
          clear hq hb2
          go_wp2_with fail
          refine (num4_any _ w4).mono ?_
          rintro e wz ⟨rfl, rfl⟩
          go_wp2_with fail
          refine (num4_any _ w4).mono ?_
          rintro e wz ⟨rfl, rfl⟩
          go_wp2_with (first | (refine wpList_load_pfx (.tmp 8) rfl B3 p rfl H4.out.2.2.1 rfl ?_) | (refine wpList_load_pfx (.tmp 9) rfl B4 q rfl H4.out.2.2.2.1 rfl ?_) | (refine wpList_eql_pfx (.tmp 70) (.tmp 71) rfl p q rfl rfl b2 HB2.out rfl ?_) | (refine wpList_neq_bb (.tmp 69) (.tmp 72) rfl ((txB (prPF p)).toList == (txB (prPF q)).toList) b2 rfl rfl HQP.out rfl ?_))
          refine MixH.start (fun A => IprAt A B1 V x ∧ IprAt A B2 U y ∧ PfxAt A B3 p ∧ PfxAt A B4 q ∧ MacAt A B5 m ∧ MacAt A B6 n ∧ Below w.heap.size w A) (by kernel_rfl) ?_
          obtain ⟨wA, hwA⟩ : ∃ W_, W_ = w4.drew := ⟨_, rfl⟩
          have bdr : Below w4.heap.size w4 wA := by rw [hwA]; exact (Below.refl _ _).drew
          have hS : IprAt wA B1 V x ∧ IprAt wA B2 U y ∧ PfxAt wA B3 p ∧ PfxAt wA B4 q ∧ MacAt wA B5 m ∧ MacAt wA B6 n ∧ Below w.heap.size w wA := ⟨H4.out.1.below bdr, H4.out.2.1.below bdr, H4.out.2.2.1.below bdr, H4.out.2.2.2.1.below bdr, H4.out.2.2.2.2.1.below bdr, H4.out.2.2.2.2.2.1.below bdr, H4.out.2.2.2.2.2.2.trans (bdr.mono H4.out.2.2.2.2.2.2.size)⟩
          rw [← hwA]
          clear hwA bdr
          refine MixH.one [true] 12 0 _ rfl rfl (by kernel_rfl) (by kernel_rfl) (fun K hK => ?_)
          simp only [Mix.pick]
          go_wp2_with fail
          refine Calls.mono (started_any wA (HG.out.p.below hS.2.2.2.2.2.2) (HG.out.s.old hS.2.2.2.2.2.2)) ?_
          rintro e wB ⟨rfl, hb⟩
          replace hS : IprAt wB B1 V x ∧ IprAt wB B2 U y ∧ PfxAt wB B3 p ∧ PfxAt wB B4 q ∧ MacAt wB B5 m ∧ MacAt wB B6 n ∧ Below w.heap.size w wB := ⟨hS.1.below hb, hS.2.1.below hb, hS.2.2.1.below hb, hS.2.2.2.1.below hb, hS.2.2.2.2.1.below hb, hS.2.2.2.2.2.1.below hb, hS.2.2.2.2.2.2.trans (hb.mono hS.2.2.2.2.2.2.size)⟩
          clear hb
          go_wp2_with fail
          refine ⟨rfl, hK _ _ hS ?_⟩
          clear hK K
          refine MixH.takes [false, true] 11 (by kernel_rfl) (by kernel_rfl) (by decide) (by kernel_rfl) hS (fun K hK => ?_)
          simp only [Mix.pick]
          repeat (go_big_quiet_step (fail))
          refine wpQuiet_nil (hK _ ?_)
          clear hK K
          refine MixH.take 10 2 _ (.agg (macC m)) rfl (by kernel_rfl) (by kernel_rfl) (by kernel_rfl) (by kernel_rfl) (yields_mac (.tmp 10) rfl B5 0 m rfl rfl (fun A hA => MacAt.all hA.2.2.2.2.1)) hS (fun a' ha => ?_)
          simp only [Act.put, List.setIfInBounds_toArray, List.set_cons_succ, List.set_cons_zero] at ha
          subst ha
          refine MixH.take 9 4 _ (.agg (macC n)) rfl (by kernel_rfl) (by kernel_rfl) (by kernel_rfl) (by kernel_rfl) (yields_mac (.tmp 11) rfl B6 0 n rfl rfl (fun A hA => MacAt.all hA.2.2.2.2.2.1)) hS (fun a' ha => ?_)
          simp only [Act.put, List.setIfInBounds_toArray, List.set_cons_succ, List.set_cons_zero] at ha
          subst ha
          refine MixH.take 8 7 _ (.agg (macC m)) rfl (by kernel_rfl) (by kernel_rfl) (by kernel_rfl) (by kernel_rfl) (yields_mac (.tmp 10) rfl B5 0 m rfl rfl (fun A hA => MacAt.all hA.2.2.2.2.1)) hS (fun a' ha => ?_)
          simp only [Act.put, List.setIfInBounds_toArray, List.set_cons_succ, List.set_cons_zero] at ha
          subst ha
          refine MixH.take 7 8 _ (.agg (macC n)) rfl (by kernel_rfl) (by kernel_rfl) (by kernel_rfl) (by kernel_rfl) (yields_mac (.tmp 11) rfl B6 0 n rfl rfl (fun A hA => MacAt.all hA.2.2.2.2.2.1)) hS (fun a' ha => ?_)
          simp only [Act.put, List.setIfInBounds_toArray, List.set_cons_succ, List.set_cons_zero] at ha
          subst ha
          refine MixH.take 6 9 _ (.bool (same6 m n)) rfl (by kernel_rfl) (by kernel_rfl) (by kernel_rfl) (by kernel_rfl) (yields_eql_mac (.tmp 82) (.tmp 83) rfl m n rfl rfl rfl) hS (fun a' ha => ?_)
          simp only [Act.put, List.setIfInBounds_toArray, List.set_cons_succ, List.set_cons_zero] at ha
          subst ha
          refine MixH.one [false, false, false, true] 5 3 _ rfl rfl (by kernel_rfl) (by kernel_rfl) (fun K hK => ?_)
          simp only [Mix.pick]
          go_wp2_with fail
          refine Calls.mono (printMac_any m wB HM.out) ?_
          rintro e wC ⟨rfl, hb⟩
          replace hS : IprAt wC B1 V x ∧ IprAt wC B2 U y ∧ PfxAt wC B3 p ∧ PfxAt wC B4 q ∧ MacAt wC B5 m ∧ MacAt wC B6 n ∧ Below w.heap.size w wC := ⟨hS.1.below hb, hS.2.1.below hb, hS.2.2.1.below hb, hS.2.2.2.1.below hb, hS.2.2.2.2.1.below hb, hS.2.2.2.2.2.1.below hb, hS.2.2.2.2.2.2.trans (hb.mono hS.2.2.2.2.2.2.size)⟩
          clear hb
          go_wp2_with fail
          refine ⟨rfl, hK _ _ hS ?_⟩
          clear hK K
          refine MixH.one [false, false, false, false, false, true] 4 5 _ rfl rfl (by kernel_rfl) (by kernel_rfl) (fun K hK => ?_)
          simp only [Mix.pick]
          go_wp2_with fail
          refine Calls.mono (printMac_any n wC HN.out) ?_
          rintro e wD ⟨rfl, hb⟩
          replace hS : IprAt wD B1 V x ∧ IprAt wD B2 U y ∧ PfxAt wD B3 p ∧ PfxAt wD B4 q ∧ MacAt wD B5 m ∧ MacAt wD B6 n ∧ Below w.heap.size w wD := ⟨hS.1.below hb, hS.2.1.below hb, hS.2.2.1.below hb, hS.2.2.2.1.below hb, hS.2.2.2.2.1.below hb, hS.2.2.2.2.2.1.below hb, hS.2.2.2.2.2.2.trans (hb.mono hS.2.2.2.2.2.2.size)⟩
          clear hb
          go_wp2_with fail
          refine ⟨rfl, hK _ _ hS ?_⟩
          clear hK K
          refine MixH.one [false, false, false, false, false, false, true] 3 6 _ rfl rfl (by kernel_rfl) (by kernel_rfl) (fun K hK => ?_)
          simp only [Mix.pick]
          go_wp2
          rw [mac_beq HM.out HN.out]
          refine ⟨rfl, hK _ _ hS ?_⟩
          clear hK K
          refine MixH.takes [false, false, false, false, false, false, false, false, false, false, true, true, true] 0 (by kernel_rfl) (by kernel_rfl) (by decide) (by kernel_rfl) hS (fun K hK => ?_)
          simp only [Mix.pick]
          repeat (go_big_quiet_step (fail))
          refine wpQuiet_nil (hK _ ?_)
          clear hK K
          refine MixH.done (by kernel_rfl) ?_
          have HS9 : Hid (Below w.heap.size w wD) := hS.2.2.2.2.2.2
          clear hS
          go_wp2
          go_ret
          exact ⟨rfl, HS9.out⟩
        · rw [pfO_no hq]
          obtain ⟨e4, he4⟩ : ∃ e4, vpE q = e4 := ⟨_, rfl⟩
          have q4 : (((e4 : Nat) : Int) == 0) = false := by rw [← he4]; simp [hq]
          rw [he4]
          clear hq he4
          go_wp2_with fail
          refine (num4_any _ w4).mono ?_
          rintro e wz ⟨rfl, rfl⟩
          go_wp2_with fail
          refine (num4_any _ w4).mono ?_
          rintro e wz ⟨rfl, rfl⟩
          go_wp2_with fail
          refine MixH.start (fun A => IprAt A B1 V x ∧ IprAt A B2 U y ∧ PfxAt A B3 p ∧ PfxAt A B4 q ∧ MacAt A B5 m ∧ MacAt A B6 n ∧ Below w.heap.size w A) (by kernel_rfl) ?_
          obtain ⟨wA, hwA⟩ : ∃ W_, W_ = w4.drew := ⟨_, rfl⟩
          have bdr : Below w4.heap.size w4 wA := by rw [hwA]; exact (Below.refl _ _).drew
          have hS : IprAt wA B1 V x ∧ IprAt wA B2 U y ∧ PfxAt wA B3 p ∧ PfxAt wA B4 q ∧ MacAt wA B5 m ∧ MacAt wA B6 n ∧ Below w.heap.size w wA := ⟨H4.out.1.below bdr, H4.out.2.1.below bdr, H4.out.2.2.1.below bdr, H4.out.2.2.2.1.below bdr, H4.out.2.2.2.2.1.below bdr, H4.out.2.2.2.2.2.1.below bdr, H4.out.2.2.2.2.2.2.trans (bdr.mono H4.out.2.2.2.2.2.2.size)⟩
          rw [← hwA]
          clear hwA bdr
          refine MixH.one [true] 12 0 _ rfl rfl (by kernel_rfl) (by kernel_rfl) (fun K hK => ?_)
          simp only [Mix.pick]
          go_wp2_with fail
          refine Calls.mono (started_any wA (HG.out.p.below hS.2.2.2.2.2.2) (HG.out.s.old hS.2.2.2.2.2.2)) ?_
          rintro e wB ⟨rfl, hb⟩
          replace hS : IprAt wB B1 V x ∧ IprAt wB B2 U y ∧ PfxAt wB B3 p ∧ PfxAt wB B4 q ∧ MacAt wB B5 m ∧ MacAt wB B6 n ∧ Below w.heap.size w wB := ⟨hS.1.below hb, hS.2.1.below hb, hS.2.2.1.below hb, hS.2.2.2.1.below hb, hS.2.2.2.2.1.below hb, hS.2.2.2.2.2.1.below hb, hS.2.2.2.2.2.2.trans (hb.mono hS.2.2.2.2.2.2.size)⟩
          clear hb
          go_wp2_with fail
          refine ⟨rfl, hK _ _ hS ?_⟩
          clear hK K
          refine MixH.takes [false, true] 11 (by kernel_rfl) (by kernel_rfl) (by decide) (by kernel_rfl) hS (fun K hK => ?_)
          simp only [Mix.pick]
          repeat (go_big_quiet_step (fail))
          refine wpQuiet_nil (hK _ ?_)
          clear hK K
          refine MixH.take 10 2 _ (.agg (macC m)) rfl (by kernel_rfl) (by kernel_rfl) (by kernel_rfl) (by kernel_rfl) (yields_mac (.tmp 10) rfl B5 0 m rfl rfl (fun A hA => MacAt.all hA.2.2.2.2.1)) hS (fun a' ha => ?_)
          simp only [Act.put, List.setIfInBounds_toArray, List.set_cons_succ, List.set_cons_zero] at ha
          subst ha
          refine MixH.take 9 4 _ (.agg (macC n)) rfl (by kernel_rfl) (by kernel_rfl) (by kernel_rfl) (by kernel_rfl) (yields_mac (.tmp 11) rfl B6 0 n rfl rfl (fun A hA => MacAt.all hA.2.2.2.2.2.1)) hS (fun a' ha => ?_)
          simp only [Act.put, List.setIfInBounds_toArray, List.set_cons_succ, List.set_cons_zero] at ha
          subst ha
          refine MixH.take 8 7 _ (.agg (macC m)) rfl (by kernel_rfl) (by kernel_rfl) (by kernel_rfl) (by kernel_rfl) (yields_mac (.tmp 10) rfl B5 0 m rfl rfl (fun A hA => MacAt.all hA.2.2.2.2.1)) hS (fun a' ha => ?_)
          simp only [Act.put, List.setIfInBounds_toArray, List.set_cons_succ, List.set_cons_zero] at ha
          subst ha
          refine MixH.take 7 8 _ (.agg (macC n)) rfl (by kernel_rfl) (by kernel_rfl) (by kernel_rfl) (by kernel_rfl) (yields_mac (.tmp 11) rfl B6 0 n rfl rfl (fun A hA => MacAt.all hA.2.2.2.2.2.1)) hS (fun a' ha => ?_)
          simp only [Act.put, List.setIfInBounds_toArray, List.set_cons_succ, List.set_cons_zero] at ha
          subst ha
          refine MixH.take 6 9 _ (.bool (same6 m n)) rfl (by kernel_rfl) (by kernel_rfl) (by kernel_rfl) (by kernel_rfl) (yields_eql_mac (.tmp 82) (.tmp 83) rfl m n rfl rfl rfl) hS (fun a' ha => ?_)
          simp only [Act.put, List.setIfInBounds_toArray, List.set_cons_succ, List.set_cons_zero] at ha
          subst ha
          refine MixH.one [false, false, false, true] 5 3 _ rfl rfl (by kernel_rfl) (by kernel_rfl) (fun K hK => ?_)
          simp only [Mix.pick]
          go_wp2_with fail
          refine Calls.mono (printMac_any m wB HM.out) ?_
          rintro e wC ⟨rfl, hb⟩
          replace hS : IprAt wC B1 V x ∧ IprAt wC B2 U y ∧ PfxAt wC B3 p ∧ PfxAt wC B4 q ∧ MacAt wC B5 m ∧ MacAt wC B6 n ∧ Below w.heap.size w wC := ⟨hS.1.below hb, hS.2.1.below hb, hS.2.2.1.below hb, hS.2.2.2.1.below hb, hS.2.2.2.2.1.below hb, hS.2.2.2.2.2.1.below hb, hS.2.2.2.2.2.2.trans (hb.mono hS.2.2.2.2.2.2.size)⟩
          clear hb
          go_wp2_with fail
          refine ⟨rfl, hK _ _ hS ?_⟩
          clear hK K
          refine MixH.one [false, false, false, false, false, true] 4 5 _ rfl rfl (by kernel_rfl) (by kernel_rfl) (fun K hK => ?_)
          simp only [Mix.pick]
          go_wp2_with fail
          refine Calls.mono (printMac_any n wC HN.out) ?_
          rintro e wD ⟨rfl, hb⟩
          replace hS : IprAt wD B1 V x ∧ IprAt wD B2 U y ∧ PfxAt wD B3 p ∧ PfxAt wD B4 q ∧ MacAt wD B5 m ∧ MacAt wD B6 n ∧ Below w.heap.size w wD := ⟨hS.1.below hb, hS.2.1.below hb, hS.2.2.1.below hb, hS.2.2.2.1.below hb, hS.2.2.2.2.1.below hb, hS.2.2.2.2.2.1.below hb, hS.2.2.2.2.2.2.trans (hb.mono hS.2.2.2.2.2.2.size)⟩
          clear hb
          go_wp2_with fail
          refine ⟨rfl, hK _ _ hS ?_⟩
          clear hK K
          refine MixH.one [false, false, false, false, false, false, true] 3 6 _ rfl rfl (by kernel_rfl) (by kernel_rfl) (fun K hK => ?_)
          simp only [Mix.pick]
          go_wp2
          rw [mac_beq HM.out HN.out]
          refine ⟨rfl, hK _ _ hS ?_⟩
          clear hK K
          refine MixH.takes [false, false, false, false, false, false, false, false, false, false, true, true, true] 0 (by kernel_rfl) (by kernel_rfl) (by decide) (by kernel_rfl) hS (fun K hK => ?_)
          simp only [Mix.pick]
          repeat (go_big_quiet_step (fail))
          refine wpQuiet_nil (hK _ ?_)
          clear hK K
          refine MixH.done (by kernel_rfl) ?_
          have HS9 : Hid (Below w.heap.size w wD) := hS.2.2.2.2.2.2
          clear hS
          go_wp2
          go_ret
          exact ⟨rfl, HS9.out⟩
      · rw [pfO_no hp]
        obtain ⟨e3, he3⟩ : ∃ e3, vpE p = e3 := ⟨_, rfl⟩
        have q3 : (((e3 : Nat) : Int) == 0) = false := by rw [← he3]; simp [hp]
        rw [he3]
        clear hp he3
        go_wp2_with (refine wpList_load_pfx (.tmp 9) rfl B4 q rfl H3.out.2.2.2.1 rfl ?_)
        refine (printPfx_any q w3 HQX.out (HG.out.below H3.out.2.2.2.2.2.2)).mono ?_
        rintro e w4 ⟨rfl, hb⟩
        have H4 : Hid (IprAt w4 B1 V x ∧ IprAt w4 B2 U y ∧ PfxAt w4 B3 p ∧ PfxAt w4 B4 q ∧ MacAt w4 B5 m ∧ MacAt w4 B6 n ∧ Below w.heap.size w w4) := ⟨H3.out.1.below hb, H3.out.2.1.below hb, H3.out.2.2.1.below hb, H3.out.2.2.2.1.below hb, H3.out.2.2.2.2.1.below hb, H3.out.2.2.2.2.2.1.below hb, H3.out.2.2.2.2.2.2.trans (hb.mono H3.out.2.2.2.2.2.2.size)⟩
        clear hb
        obtain ⟨S4, E4, hP⟩ := pfO_tuple q
        rw [hP]
        clear hP
        go_wp2_with fail
        refine (num4_any _ w4).mono ?_
        rintro e wz ⟨rfl, rfl⟩
        go_wp2_with fail
        refine MixH.start (fun A => IprAt A B1 V x ∧ IprAt A B2 U y ∧ PfxAt A B3 p ∧ PfxAt A B4 q ∧ MacAt A B5 m ∧ MacAt A B6 n ∧ Below w.heap.size w A) (by kernel_rfl) ?_
        obtain ⟨wA, hwA⟩ : ∃ W_, W_ = w4.drew := ⟨_, rfl⟩
        have bdr : Below w4.heap.size w4 wA := by rw [hwA]; exact (Below.refl _ _).drew
        have hS : IprAt wA B1 V x ∧ IprAt wA B2 U y ∧ PfxAt wA B3 p ∧ PfxAt wA B4 q ∧ MacAt wA B5 m ∧ MacAt wA B6 n ∧ Below w.heap.size w wA := ⟨H4.out.1.below bdr, H4.out.2.1.below bdr, H4.out.2.2.1.below bdr, H4.out.2.2.2.1.below bdr, H4.out.2.2.2.2.1.below bdr, H4.out.2.2.2.2.2.1.below bdr, H4.out.2.2.2.2.2.2.trans (bdr.mono H4.out.2.2.2.2.2.2.size)⟩
        rw [← hwA]
        clear hwA bdr
        refine MixH.one [true] 12 0 _ rfl rfl (by kernel_rfl) (by kernel_rfl) (fun K hK => ?_)
        simp only [Mix.pick]
        go_wp2_with fail
        refine Calls.mono (started_any wA (HG.out.p.below hS.2.2.2.2.2.2) (HG.out.s.old hS.2.2.2.2.2.2)) ?_
        rintro e wB ⟨rfl, hb⟩
        replace hS : IprAt wB B1 V x ∧ IprAt wB B2 U y ∧ PfxAt wB B3 p ∧ PfxAt wB B4 q ∧ MacAt wB B5 m ∧ MacAt wB B6 n ∧ Below w.heap.size w wB := ⟨hS.1.below hb, hS.2.1.below hb, hS.2.2.1.below hb, hS.2.2.2.1.below hb, hS.2.2.2.2.1.below hb, hS.2.2.2.2.2.1.below hb, hS.2.2.2.2.2.2.trans (hb.mono hS.2.2.2.2.2.2.size)⟩
        clear hb
        go_wp2_with fail
        refine ⟨rfl, hK _ _ hS ?_⟩
        clear hK K
        refine MixH.takes [false, true] 11 (by kernel_rfl) (by kernel_rfl) (by decide) (by kernel_rfl) hS (fun K hK => ?_)
        simp only [Mix.pick]
        repeat (go_big_quiet_step (fail))
        refine wpQuiet_nil (hK _ ?_)
        clear hK K
        refine MixH.take 10 2 _ (.agg (macC m)) rfl (by kernel_rfl) (by kernel_rfl) (by kernel_rfl) (by kernel_rfl) (yields_mac (.tmp 10) rfl B5 0 m rfl rfl (fun A hA => MacAt.all hA.2.2.2.2.1)) hS (fun a' ha => ?_)
        simp only [Act.put, List.setIfInBounds_toArray, List.set_cons_succ, List.set_cons_zero] at ha
        subst ha
        refine MixH.take 9 4 _ (.agg (macC n)) rfl (by kernel_rfl) (by kernel_rfl) (by kernel_rfl) (by kernel_rfl) (yields_mac (.tmp 11) rfl B6 0 n rfl rfl (fun A hA => MacAt.all hA.2.2.2.2.2.1)) hS (fun a' ha => ?_)
        simp only [Act.put, List.setIfInBounds_toArray, List.set_cons_succ, List.set_cons_zero] at ha
        subst ha
        refine MixH.take 8 7 _ (.agg (macC m)) rfl (by kernel_rfl) (by kernel_rfl) (by kernel_rfl) (by kernel_rfl) (yields_mac (.tmp 10) rfl B5 0 m rfl rfl (fun A hA => MacAt.all hA.2.2.2.2.1)) hS (fun a' ha => ?_)
        simp only [Act.put, List.setIfInBounds_toArray, List.set_cons_succ, List.set_cons_zero] at ha
        subst ha
        refine MixH.take 7 8 _ (.agg (macC n)) rfl (by kernel_rfl) (by kernel_rfl) (by kernel_rfl) (by kernel_rfl) (yields_mac (.tmp 11) rfl B6 0 n rfl rfl (fun A hA => MacAt.all hA.2.2.2.2.2.1)) hS (fun a' ha => ?_)
        simp only [Act.put, List.setIfInBounds_toArray, List.set_cons_succ, List.set_cons_zero] at ha
        subst ha
        refine MixH.take 6 9 _ (.bool (same6 m n)) rfl (by kernel_rfl) (by kernel_rfl) (by kernel_rfl) (by kernel_rfl) (yields_eql_mac (.tmp 82) (.tmp 83) rfl m n rfl rfl rfl) hS (fun a' ha => ?_)
        simp only [Act.put, List.setIfInBounds_toArray, List.set_cons_succ, List.set_cons_zero] at ha
        subst ha
        refine MixH.one [false, false, false, true] 5 3 _ rfl rfl (by kernel_rfl) (by kernel_rfl) (fun K hK => ?_)
        simp only [Mix.pick]
        go_wp2_with fail
        refine Calls.mono (printMac_any m wB HM.out) ?_
        rintro e wC ⟨rfl, hb⟩
        replace hS : IprAt wC B1 V x ∧ IprAt wC B2 U y ∧ PfxAt wC B3 p ∧ PfxAt wC B4 q ∧ MacAt wC B5 m ∧ MacAt wC B6 n ∧ Below w.heap.size w wC := ⟨hS.1.below hb, hS.2.1.below hb, hS.2.2.1.below hb, hS.2.2.2.1.below hb, hS.2.2.2.2.1.below hb, hS.2.2.2.2.2.1.below hb, hS.2.2.2.2.2.2.trans (hb.mono hS.2.2.2.2.2.2.size)⟩
        clear hb
        go_wp2_with fail
        refine ⟨rfl, hK _ _ hS ?_⟩
        clear hK K
        refine MixH.one [false, false, false, false, false, true] 4 5 _ rfl rfl (by kernel_rfl) (by kernel_rfl) (fun K hK => ?_)
        simp only [Mix.pick]
        go_wp2_with fail
        refine Calls.mono (printMac_any n wC HN.out) ?_
        rintro e wD ⟨rfl, hb⟩
        replace hS : IprAt wD B1 V x ∧ IprAt wD B2 U y ∧ PfxAt wD B3 p ∧ PfxAt wD B4 q ∧ MacAt wD B5 m ∧ MacAt wD B6 n ∧ Below w.heap.size w wD := ⟨hS.1.below hb, hS.2.1.below hb, hS.2.2.1.below hb, hS.2.2.2.1.below hb, hS.2.2.2.2.1.below hb, hS.2.2.2.2.2.1.below hb, hS.2.2.2.2.2.2.trans (hb.mono hS.2.2.2.2.2.2.size)⟩
        clear hb
        go_wp2_with fail
        refine ⟨rfl, hK _ _ hS ?_⟩
        clear hK K
        refine MixH.one [false, false, false, false, false, false, true] 3 6 _ rfl rfl (by kernel_rfl) (by kernel_rfl) (fun K hK => ?_)
        simp only [Mix.pick]
        go_wp2
        rw [mac_beq HM.out HN.out]
        refine ⟨rfl, hK _ _ hS ?_⟩
        clear hK K
        refine MixH.takes [false, false, false, false, false, false, false, false, false, false, true, true, true] 0 (by kernel_rfl) (by kernel_rfl) (by decide) (by kernel_rfl) hS (fun K hK => ?_)
        simp only [Mix.pick]
        repeat (go_big_quiet_step (fail))
        refine wpQuiet_nil (hK _ ?_)
        clear hK K
        refine MixH.done (by kernel_rfl) ?_
        have HS9 : Hid (Below w.heap.size w wD) := hS.2.2.2.2.2.2
        clear hS
        go_wp2
        go_ret
        exact ⟨rfl, HS9.out⟩
    · rw [prO_no (by simpa using hu)]
      clear hu
      go_wp2_with fail
      refine (num4_any _ w2).mono ?_
      rintro e wz ⟨rfl, rfl⟩
      go_wp2_with fail
      refine (num4_any _ w2).mono ?_
      rintro e wz ⟨rfl, rfl⟩
      go_wp2_with (refine wpList_load_pfx (.tmp 8) rfl B3 p rfl H2.out.2.2.1 rfl ?_)
      refine (printPfx_any p w2 HPX.out (HG.out.below H2.out.2.2.2.2.2.2)).mono ?_
      rintro e w3 ⟨rfl, hb⟩
      have H3 : Hid (IprAt w3 B1 V x ∧ IprAt w3 B2 U y ∧ PfxAt w3 B3 p ∧ PfxAt w3 B4 q ∧ MacAt w3 B5 m ∧ MacAt w3 B6 n ∧ Below w.heap.size w w3) := ⟨H2.out.1.below hb, H2.out.2.1.below hb, H2.out.2.2.1.below hb, H2.out.2.2.2.1.below hb, H2.out.2.2.2.2.1.below hb, H2.out.2.2.2.2.2.1.below hb, H2.out.2.2.2.2.2.2.trans (hb.mono H2.out.2.2.2.2.2.2.size)⟩
      clear hb
      by_cases hp : vpE p = 0
      · rw [pfO_yes hp]
        have HVP : Hid (vpE p = 0) := hp
        clear hp
        go_wp2_with (refine wpList_load_pfx (.tmp 9) rfl B4 q rfl H3.out.2.2.2.1 rfl ?_)
        refine (printPfx_any q w3 HQX.out (HG.out.below H3.out.2.2.2.2.2.2)).mono ?_
        rintro e w4 ⟨rfl, hb⟩
        have H4 : Hid (IprAt w4 B1 V x ∧ IprAt w4 B2 U y ∧ PfxAt w4 B3 p ∧ PfxAt w4 B4 q ∧ MacAt w4 B5 m ∧ MacAt w4 B6 n ∧ Below w.heap.size w w4) := ⟨H3.out.1.below hb, H3.out.2.1.below hb, H3.out.2.2.1.below hb, H3.out.2.2.2.1.below hb, H3.out.2.2.2.2.1.below hb, H3.out.2.2.2.2.2.1.below hb, H3.out.2.2.2.2.2.2.trans (hb.mono H3.out.2.2.2.2.2.2.size)⟩
        clear hb
        by_cases hq : vpE q = 0
        · rw [pfO_yes hq]
          have HVQ : Hid (vpE q = 0) := hq
          obtain ⟨b2, hb2⟩ : ∃ b2, ((p.V == q.V && same16 p.x q.x) && p.n == q.n) = b2 := ⟨_, rfl⟩
          have HB2 : Hid (((p.V == q.V && same16 p.x q.x) && p.n == q.n) = b2) := hb2
          have HQP : Hid (((txB (prPF p)).toList == (txB (prPF q)).toList) = b2) := (pf_beq HVP.out hq HPX.out HQX.out).trans hb2
          clear hq hb2
          go_wp2_with fail
          refine (num4_any _ w4).mono ?_
          rintro e wz ⟨rfl, rfl⟩
          go_wp2_with fail
          refine (num4_any _ w4).mono ?_
          rintro e wz ⟨rfl, rfl⟩
          go_wp2_with (first | (refine wpList_load_pfx (.tmp 8) rfl B3 p rfl H4.out.2.2.1 rfl ?_) | (refine wpList_load_pfx (.tmp 9) rfl B4 q rfl H4.out.2.2.2.1 rfl ?_) | (refine wpList_eql_pfx (.tmp 70) (.tmp 71) rfl p q rfl rfl b2 HB2.out rfl ?_) | (refine wpList_neq_bb (.tmp 69) (.tmp 72) rfl ((txB (prPF p)).toList == (txB (prPF q)).toList) b2 rfl rfl HQP.out rfl ?_))
          refine MixH.start (fun A => IprAt A B1 V x ∧ IprAt A B2 U y ∧ PfxAt A B3 p ∧ PfxAt A B4 q ∧ MacAt A B5 m ∧ MacAt A B6 n ∧ Below w.heap.size w A) (by kernel_rfl) ?_
          obtain ⟨wA, hwA⟩ : ∃ W_, W_ = w4.drew := ⟨_, rfl⟩
          have bdr : Below w4.heap.size w4 wA := by rw [hwA]; exact (Below.refl _ _).drew
          have hS : IprAt wA B1 V x ∧ IprAt wA B2 U y ∧ PfxAt wA B3 p ∧ PfxAt wA B4 q ∧ MacAt wA B5 m ∧ MacAt wA B6 n ∧ Below w.heap.size w wA := ⟨H4.out.1.below bdr, H4.out.2.1.below bdr, H4.out.2.2.1.below bdr, H4.out.2.2.2.1.below bdr, H4.out.2.2.2.2.1.below bdr, H4.out.2.2.2.2.2.1.below bdr, H4.out.2.2.2.2.2.2.trans (bdr.mono H4.out.2.2.2.2.2.2.size)⟩
          rw [← hwA]
          clear hwA bdr
          refine MixH.one [true] 12 0 _ rfl rfl (by kernel_rfl) (by kernel_rfl) (fun K hK => ?_)
          simp only [Mix.pick]
          go_wp2_with fail
          refine Calls.mono (started_any wA (HG.out.p.below hS.2.2.2.2.2.2) (HG.out.s.old hS.2.2.2.2.2.2)) ?_
          rintro e wB ⟨rfl, hb⟩
          replace hS : IprAt wB B1 V x ∧ IprAt wB B2 U y ∧ PfxAt wB B3 p ∧ PfxAt wB B4 q ∧ MacAt wB B5 m ∧ MacAt wB B6 n ∧ Below w.heap.size w wB := ⟨hS.1.below hb, hS.2.1.below hb, hS.2.2.1.below hb, hS.2.2.2.1.below hb, hS.2.2.2.2.1.below hb, hS.2.2.2.2.2.1.below hb, hS.2.2.2.2.2.2.trans (hb.mono hS.2.2.2.2.2.2.size)⟩
          clear hb
          go_wp2_with fail
          refine ⟨rfl, hK _ _ hS ?_⟩
          clear hK K
          refine MixH.takes [false, true] 11 (by kernel_rfl) (by kernel_rfl) (by decide) (by kernel_rfl) hS (fun K hK => ?_)
          simp only [Mix.pick]
          repeat (go_big_quiet_step (fail))
          refine wpQuiet_nil (hK _ ?_)
          clear hK K
          refine MixH.take 10 2 _ (.agg (macC m)) rfl (by kernel_rfl) (by kernel_rfl) (by kernel_rfl) (by kernel_rfl) (yields_mac (.tmp 10) rfl B5 0 m rfl rfl (fun A hA => MacAt.all hA.2.2.2.2.1)) hS (fun a' ha => ?_)
          simp only [Act.put, List.setIfInBounds_toArray, List.set_cons_succ, List.set_cons_zero] at ha
          subst ha
          refine MixH.take 9 4 _ (.agg (macC n)) rfl (by kernel_rfl) (by kernel_rfl) (by kernel_rfl) (by kernel_rfl) (yields_mac (.tmp 11) rfl B6 0 n rfl rfl (fun A hA => MacAt.all hA.2.2.2.2.2.1)) hS (fun a' ha => ?_)
          simp only [Act.put, List.setIfInBounds_toArray, List.set_cons_succ, List.set_cons_zero] at ha
          subst ha
          refine MixH.take 8 7 _ (.agg (macC m)) rfl (by kernel_rfl) (by kernel_rfl) (by kernel_rfl) (by kernel_rfl) (yields_mac (.tmp 10) rfl B5 0 m rfl rfl (fun A hA => MacAt.all hA.2.2.2.2.1)) hS (fun a' ha => ?_)
          simp only [Act.put, List.setIfInBounds_toArray, List.set_cons_succ, List.set_cons_zero] at ha
          subst ha
          refine MixH.take 7 8 _ (.agg (macC n)) rfl (by kernel_rfl) (by kernel_rfl) (by kernel_rfl) (by kernel_rfl) (yields_mac (.tmp 11) rfl B6 0 n rfl rfl (fun A hA => MacAt.all hA.2.2.2.2.2.1)) hS (fun a' ha => ?_)
          simp only [Act.put, List.setIfInBounds_toArray, List.set_cons_succ, List.set_cons_zero] at ha
          subst ha
          refine MixH.take 6 9 _ (.bool (same6 m n)) rfl (by kernel_rfl) (by kernel_rfl) (by kernel_rfl) (by kernel_rfl) (yields_eql_mac (.tmp 82) (.tmp 83) rfl m n rfl rfl rfl) hS (fun a' ha => ?_)
          simp only [Act.put, List.setIfInBounds_toArray, List.set_cons_succ, List.set_cons_zero] at ha
          subst ha
          refine MixH.one [false, false, false, true] 5 3 _ rfl rfl (by kernel_rfl) (by kernel_rfl) (fun K hK => ?_)
          simp only [Mix.pick]
          go_wp2_with fail
          refine Calls.mono (printMac_any m wB HM.out) ?_
          rintro e wC ⟨rfl, hb⟩
          replace hS : IprAt wC B1 V x ∧ IprAt wC B2 U y ∧ PfxAt wC B3 p ∧ PfxAt wC B4 q ∧ MacAt wC B5 m ∧ MacAt wC B6 n ∧ Below w.heap.size w wC := ⟨hS.1.below hb, hS.2.1.below hb, hS.2.2.1.below hb, hS.2.2.2.1.below hb, hS.2.2.2.2.1.below hb, hS.2.2.2.2.2.1.below hb, hS.2.2.2.2.2.2.trans (hb.mono hS.2.2.2.2.2.2.size)⟩
          clear hb
          go_wp2_with fail
          refine ⟨rfl, hK _ _ hS ?_⟩
          clear hK K
          refine MixH.one [false, false, false, false, false, true] 4 5 _ rfl rfl (by kernel_rfl) (by kernel_rfl) (fun K hK => ?_)
          simp only [Mix.pick]
          go_wp2_with fail
          refine Calls.mono (printMac_any n wC HN.out) ?_
          rintro e wD ⟨rfl, hb⟩
          replace hS : IprAt wD B1 V x ∧ IprAt wD B2 U y ∧ PfxAt wD B3 p ∧ PfxAt wD B4 q ∧ MacAt wD B5 m ∧ MacAt wD B6 n ∧ Below w.heap.size w wD := ⟨hS.1.below hb, hS.2.1.below hb, hS.2.2.1.below hb, hS.2.2.2.1.below hb, hS.2.2.2.2.1.below hb, hS.2.2.2.2.2.1.below hb, hS.2.2.2.2.2.2.trans (hb.mono hS.2.2.2.2.2.2.size)⟩
          clear hb
          go_wp2_with fail
          refine ⟨rfl, hK _ _ hS ?_⟩
          clear hK K
          refine MixH.one [false, false, false, false, false, false, true] 3 6 _ rfl rfl (by kernel_rfl) (by kernel_rfl) (fun K hK => ?_)
          simp only [Mix.pick]
          go_wp2
          rw [mac_beq HM.out HN.out]
          refine ⟨rfl, hK _ _ hS ?_⟩
          clear hK K
          refine MixH.takes [false, false, false, false, false, false, false, false, false, false, true, true, true] 0 (by kernel_rfl) (by kernel_rfl) (by decide) (by kernel_rfl) hS (fun K hK => ?_)
          simp only [Mix.pick]
          repeat (go_big_quiet_step (fail))
          refine wpQuiet_nil (hK _ ?_)
          clear hK K
          refine MixH.done (by kernel_rfl) ?_
          have HS9 : Hid (Below w.heap.size w wD) := hS.2.2.2.2.2.2
          clear hS
          go_wp2
          go_ret
          exact ⟨rfl, HS9.out⟩
        · rw [pfO_no hq]
          obtain ⟨e4, he4⟩ : ∃ e4, vpE q = e4 := ⟨_, rfl⟩
          have q4 : (((e4 : Nat) : Int) == 0) = false := by rw [← he4]; simp [hq]
          rw [he4]
          clear hq he4
          go_wp2_with fail
          refine (num4_any _ w4).mono ?_
          rintro e wz ⟨rfl, rfl⟩
          go_wp2_with fail
          refine (num4_any _ w4).mono ?_
          rintro e wz ⟨rfl, rfl⟩
          go_wp2_with fail
          refine MixH.start (fun A => IprAt A B1 V x ∧ IprAt A B2 U y ∧ PfxAt A B3 p ∧ PfxAt A B4 q ∧ MacAt A B5 m ∧ MacAt A B6 n ∧ Below w.heap.size w A) (by kernel_rfl) ?_
          obtain ⟨wA, hwA⟩ : ∃ W_, W_ = w4.drew := ⟨_, rfl⟩
          have bdr : Below w4.heap.size w4 wA := by rw [hwA]; exact (Below.refl _ _).drew
          have hS : IprAt wA B1 V x ∧ IprAt wA B2 U y ∧ PfxAt wA B3 p ∧ PfxAt wA B4 q ∧ MacAt wA B5 m ∧ MacAt wA B6 n ∧ Below w.heap.size w wA := ⟨H4.out.1.below bdr, H4.out.2.1.below bdr, H4.out.2.2.1.below bdr, H4.out.2.2.2.1.below bdr, H4.out.2.2.2.2.1.below bdr, H4.out.2.2.2.2.2.1.below bdr, H4.out.2.2.2.2.2.2.trans (bdr.mono H4.out.2.2.2.2.2.2.size)⟩
          rw [← hwA]
          clear hwA bdr
          refine MixH.one [true] 12 0 _ rfl rfl (by kernel_rfl) (by kernel_rfl) (fun K hK => ?_)
          simp only [Mix.pick]
          go_wp2_with fail
          refine Calls.mono (started_any wA (HG.out.p.below hS.2.2.2.2.2.2) (HG.out.s.old hS.2.2.2.2.2.2)) ?_
          rintro e wB ⟨rfl, hb⟩
          replace hS : IprAt wB B1 V x ∧ IprAt wB B2 U y ∧ PfxAt wB B3 p ∧ PfxAt wB B4 q ∧ MacAt wB B5 m ∧ MacAt wB B6 n ∧ Below w.heap.size w wB := ⟨hS.1.below hb, hS.2.1.below hb, hS.2.2.1.below hb, hS.2.2.2.1.below hb, hS.2.2.2.2.1.below hb, hS.2.2.2.2.2.1.below hb, hS.2.2.2.2.2.2.trans (hb.mono hS.2.2.2.2.2.2.size)⟩
          clear hb
          go_wp2_with fail
          refine ⟨rfl, hK _ _ hS ?_⟩
          clear hK K
          refine MixH.takes [false, true] 11 (by kernel_rfl) (by kernel_rfl) (by decide) (by kernel_rfl) hS (fun K hK => ?_)
          simp only [Mix.pick]
          repeat (go_big_quiet_step (fail))
          refine wpQuiet_nil (hK _ ?_)
          clear hK K
          refine MixH.take 10 2 _ (.agg (macC m)) rfl (by kernel_rfl) (by kernel_rfl) (by kernel_rfl) (by kernel_rfl) (yields_mac (.tmp 10) rfl B5 0 m rfl rfl (fun A hA => MacAt.all hA.2.2.2.2.1)) hS (fun a' ha => ?_)
          simp only [Act.put, List.setIfInBounds_toArray, List.set_cons_succ, List.set_cons_zero] at ha
          subst ha
          refine MixH.take 9 4 _ (.agg (macC n)) rfl (by kernel_rfl) (by kernel_rfl) (by kernel_rfl) (by kernel_rfl) (yields_mac (.tmp 11) rfl B6 0 n rfl rfl (fun A hA => MacAt.all hA.2.2.2.2.2.1)) hS (fun a' ha => ?_)
          simp only [Act.put, List.setIfInBounds_toArray, List.set_cons_succ, List.set_cons_zero] at ha
          subst ha
          refine MixH.take 8 7 _ (.agg (macC m)) rfl (by kernel_rfl) (by kernel_rfl) (by kernel_rfl) (by kernel_rfl) (yields_mac (.tmp 10) rfl B5 0 m rfl rfl (fun A hA => MacAt.all hA.2.2.2.2.1)) hS (fun a' ha => ?_)
          simp only [Act.put, List.setIfInBounds_toArray, List.set_cons_succ, List.set_cons_zero] at ha
          subst ha
          refine MixH.take 7 8 _ (.agg (macC n)) rfl (by kernel_rfl) (by kernel_rfl) (by kernel_rfl) (by kernel_rfl) (yields_mac (.tmp 11) rfl B6 0 n rfl rfl (fun A hA => MacAt.all hA.2.2.2.2.2.1)) hS (fun a' ha => ?_)
          simp only [Act.put, List.setIfInBounds_toArray, List.set_cons_succ, List.set_cons_zero] at ha
          subst ha
          refine MixH.take 6 9 _ (.bool (same6 m n)) rfl (by kernel_rfl) (by kernel_rfl) (by kernel_rfl) (by kernel_rfl) (yields_eql_mac (.tmp 82) (.tmp 83) rfl m n rfl rfl rfl) hS (fun a' ha => ?_)
          simp only [Act.put, List.setIfInBounds_toArray, List.set_cons_succ, List.set_cons_zero] at ha
          subst ha
          refine MixH.one [false, false, false, true] 5 3 _ rfl rfl (by kernel_rfl) (by kernel_rfl) (fun K hK => ?_)
          simp only [Mix.pick]
          go_wp2_with fail
          refine Calls.mono (printMac_any m wB HM.out) ?_
          rintro e wC ⟨rfl, hb⟩
          replace hS : IprAt wC B1 V x ∧ IprAt wC B2 U y ∧ PfxAt wC B3 p ∧ PfxAt wC B4 q ∧ MacAt wC B5 m ∧ MacAt wC B6 n ∧ Below w.heap.size w wC := ⟨hS.1.below hb, hS.2.1.below hb, hS.2.2.1.below hb, hS.2.2.2.1.below hb, hS.2.2.2.2.1.below hb, hS.2.2.2.2.2.1.below hb, hS.2.2.2.2.2.2.trans (hb.mono hS.2.2.2.2.2.2.size)⟩
          clear hb
          go_wp2_with fail
          refine ⟨rfl, hK _ _ hS ?_⟩
          clear hK K
          refine MixH.one [false, false, false, false, false, true] 4 5 _ rfl rfl (by kernel_rfl) (by kernel_rfl) (fun K hK => ?_)
          simp only [Mix.pick]
          go_wp2_with fail
          refine Calls.mono (printMac_any n wC HN.out) ?_
          rintro e wD ⟨rfl, hb⟩
          replace hS : IprAt wD B1 V x ∧ IprAt wD B2 U y ∧ PfxAt wD B3 p ∧ PfxAt wD B4 q ∧ MacAt wD B5 m ∧ MacAt wD B6 n ∧ Below w.heap.size w wD := ⟨hS.1.below hb, hS.2.1.below hb, hS.2.2.1.below hb, hS.2.2.2.1.below hb, hS.2.2.2.2.1.below hb, hS.2.2.2.2.2.1.below hb, hS.2.2.2.2.2.2.trans (hb.mono hS.2.2.2.2.2.2.size)⟩
          clear hb
          go_wp2_with fail
          refine ⟨rfl, hK _ _ hS ?_⟩
          clear hK K
          refine MixH.one [false, false, false, false, false, false, true] 3 6 _ rfl rfl (by kernel_rfl) (by kernel_rfl) (fun K hK => ?_)
          simp only [Mix.pick]
          go_wp2
          rw [mac_beq HM.out HN.out]
          refine ⟨rfl, hK _ _ hS ?_⟩
          clear hK K
          refine MixH.takes [false, false, false, false, false, false, false, false, false, false, true, true, true] 0 (by kernel_rfl) (by kernel_rfl) (by decide) (by kernel_rfl) hS (fun K hK => ?_)
          simp only [Mix.pick]
          repeat (go_big_quiet_step (fail))
          refine wpQuiet_nil (hK _ ?_)
          clear hK K
          refine MixH.done (by kernel_rfl) ?_
          have HS9 : Hid (Below w.heap.size w wD) := hS.2.2.2.2.2.2
          clear hS
          go_wp2
          go_ret
          exact ⟨rfl, HS9.out⟩
      · rw [pfO_no hp]
        obtain ⟨e3, he3⟩ : ∃ e3, vpE p = e3 := ⟨_, rfl⟩
        have q3 : (((e3 : Nat) : Int) == 0) = false := by rw [← he3]; simp [hp]
        rw [he3]
        clear hp he3
        go_wp2_with (refine wpList_load_pfx (.tmp 9) rfl B4 q rfl H3.out.2.2.2.1 rfl ?_)
        refine (printPfx_any q w3 HQX.out (HG.out.below H3.out.2.2.2.2.2.2)).mono ?_
        rintro e w4 ⟨rfl, hb⟩
        have H4 : Hid (IprAt w4 B1 V x ∧ IprAt w4 B2 U y ∧ PfxAt w4 B3 p ∧ PfxAt w4 B4 q ∧ MacAt w4 B5 m ∧ MacAt w4 B6 n ∧ Below w.heap.size w w4) := ⟨H3.out.1.below hb, H3.out.2.1.below hb, H3.out.2.2.1.below hb, H3.out.2.2.2.1.below hb, H3.out.2.2.2.2.1.below hb, H3.out.2.2.2.2.2.1.below hb, H3.out.2.2.2.2.2.2.trans (hb.mono H3.out.2.2.2.2.2.2.size)⟩
        clear hb
        obtain ⟨S4, E4, hP⟩ := pfO_tuple q
        rw [hP]
        clear hP
        go_wp2_with fail
        refine (num4_any _ w4).mono ?_
        rintro e wz ⟨rfl, rfl⟩
        go_wp2_with fail
        refine MixH.start (fun A => IprAt A B1 V x ∧ IprAt A B2 U y ∧ PfxAt A B3 p ∧ PfxAt A B4 q ∧ MacAt A B5 m ∧ MacAt A B6 n ∧ Below w.heap.size w A) (by kernel_rfl) ?_
        obtain ⟨wA, hwA⟩ : ∃ W_, W_ = w4.drew := ⟨_, rfl⟩
        have bdr : Below w4.heap.size w4 wA := by rw [hwA]; exact (Below.refl _ _).drew
        have hS : IprAt wA B1 V x ∧ IprAt wA B2 U y ∧ PfxAt wA B3 p ∧ PfxAt wA B4 q ∧ MacAt wA B5 m ∧ MacAt wA B6 n ∧ Below w.heap.size w wA := ⟨H4.out.1.below bdr, H4.out.2.1.below bdr, H4.out.2.2.1.below bdr, H4.out.2.2.2.1.below bdr, H4.out.2.2.2.2.1.below bdr, H4.out.2.2.2.2.2.1.below bdr, H4.out.2.2.2.2.2.2.trans (bdr.mono H4.out.2.2.2.2.2.2.size)⟩
        rw [← hwA]
        clear hwA bdr
        refine MixH.one [true] 12 0 _ rfl rfl (by kernel_rfl) (by kernel_rfl) (fun K hK => ?_)
        simp only [Mix.pick]
        go_wp2_with fail
        refine Calls.mono (started_any wA (HG.out.p.below hS.2.2.2.2.2.2) (HG.out.s.old hS.2.2.2.2.2.2)) ?_
        rintro e wB ⟨rfl, hb⟩
        replace hS : IprAt wB B1 V x ∧ IprAt wB B2 U y ∧ PfxAt wB B3 p ∧ PfxAt wB B4 q ∧ MacAt wB B5 m ∧ MacAt wB B6 n ∧ Below w.heap.size w wB := ⟨hS.1.below hb, hS.2.1.below hb, hS.2.2.1.below hb, hS.2.2.2.1.below hb, hS.2.2.2.2.1.below hb, hS.2.2.2.2.2.1.below hb, hS.2.2.2.2.2.2.trans (hb.mono hS.2.2.2.2.2.2.size)⟩
        clear hb
        go_wp2_with fail
        refine ⟨rfl, hK _ _ hS ?_⟩
        clear hK K
        refine MixH.takes [false, true] 11 (by kernel_rfl) (by kernel_rfl) (by decide) (by kernel_rfl) hS (fun K hK => ?_)
        simp only [Mix.pick]
        repeat (go_big_quiet_step (fail))
        refine wpQuiet_nil (hK _ ?_)
        clear hK K
        refine MixH.take 10 2 _ (.agg (macC m)) rfl (by kernel_rfl) (by kernel_rfl) (by kernel_rfl) (by kernel_rfl) (yields_mac (.tmp 10) rfl B5 0 m rfl rfl (fun A hA => MacAt.all hA.2.2.2.2.1)) hS (fun a' ha => ?_)
        simp only [Act.put, List.setIfInBounds_toArray, List.set_cons_succ, List.set_cons_zero] at ha
        subst ha
        refine MixH.take 9 4 _ (.agg (macC n)) rfl (by kernel_rfl) (by kernel_rfl) (by kernel_rfl) (by kernel_rfl) (yields_mac (.tmp 11) rfl B6 0 n rfl rfl (fun A hA => MacAt.all hA.2.2.2.2.2.1)) hS (fun a' ha => ?_)
        simp only [Act.put, List.setIfInBounds_toArray, List.set_cons_succ, List.set_cons_zero] at ha
        subst ha
        refine MixH.take 8 7 _ (.agg (macC m)) rfl (by kernel_rfl) (by kernel_rfl) (by kernel_rfl) (by kernel_rfl) (yields_mac (.tmp 10) rfl B5 0 m rfl rfl (fun A hA => MacAt.all hA.2.2.2.2.1)) hS (fun a' ha => ?_)
        simp only [Act.put, List.setIfInBounds_toArray, List.set_cons_succ, List.set_cons_zero] at ha
        subst ha
        refine MixH.take 7 8 _ (.agg (macC n)) rfl (by kernel_rfl) (by kernel_rfl) (by kernel_rfl) (by kernel_rfl) (yields_mac (.tmp 11) rfl B6 0 n rfl rfl (fun A hA => MacAt.all hA.2.2.2.2.2.1)) hS (fun a' ha => ?_)
        simp only [Act.put, List.setIfInBounds_toArray, List.set_cons_succ, List.set_cons_zero] at ha
        subst ha
        refine MixH.take 6 9 _ (.bool (same6 m n)) rfl (by kernel_rfl) (by kernel_rfl) (by kernel_rfl) (by kernel_rfl) (yields_eql_mac (.tmp 82) (.tmp 83) rfl m n rfl rfl rfl) hS (fun a' ha => ?_)
        simp only [Act.put, List.setIfInBounds_toArray, List.set_cons_succ, List.set_cons_zero] at ha
        subst ha
        refine MixH.one [false, false, false, true] 5 3 _ rfl rfl (by kernel_rfl) (by kernel_rfl) (fun K hK => ?_)
        simp only [Mix.pick]
        go_wp2_with fail
        refine Calls.mono (printMac_any m wB HM.out) ?_
        rintro e wC ⟨rfl, hb⟩
        replace hS : IprAt wC B1 V x ∧ IprAt wC B2 U y ∧ PfxAt wC B3 p ∧ PfxAt wC B4 q ∧ MacAt wC B5 m ∧ MacAt wC B6 n ∧ Below w.heap.size w wC := ⟨hS.1.below hb, hS.2.1.below hb, hS.2.2.1.below hb, hS.2.2.2.1.below hb, hS.2.2.2.2.1.below hb, hS.2.2.2.2.2.1.below hb, hS.2.2.2.2.2.2.trans (hb.mono hS.2.2.2.2.2.2.size)⟩
        clear hb
        go_wp2_with fail
        refine ⟨rfl, hK _ _ hS ?_⟩
        clear hK K
        refine MixH.one [false, false, false, false, false, true] 4 5 _ rfl rfl (by kernel_rfl) (by kernel_rfl) (fun K hK => ?_)
        simp only [Mix.pick]
        go_wp2_with fail
        refine Calls.mono (printMac_any n wC HN.out) ?_
        rintro e wD ⟨rfl, hb⟩
        replace hS : IprAt wD B1 V x ∧ IprAt wD B2 U y ∧ PfxAt wD B3 p ∧ PfxAt wD B4 q ∧ MacAt wD B5 m ∧ MacAt wD B6 n ∧ Below w.heap.size w wD := ⟨hS.1.below hb, hS.2.1.below hb, hS.2.2.1.below hb, hS.2.2.2.1.below hb, hS.2.2.2.2.1.below hb, hS.2.2.2.2.2.1.below hb, hS.2.2.2.2.2.2.trans (hb.mono hS.2.2.2.2.2.2.size)⟩
        clear hb
        go_wp2_with fail
        refine ⟨rfl, hK _ _ hS ?_⟩
        clear hK K
        refine MixH.one [false, false, false, false, false, false, true] 3 6 _ rfl rfl (by kernel_rfl) (by kernel_rfl) (fun K hK => ?_)
        simp only [Mix.pick]
        go_wp2
        rw [mac_beq HM.out HN.out]
        refine ⟨rfl, hK _ _ hS ?_⟩
        clear hK K
        refine MixH.takes [false, false, false, false, false, false, false, false, false, false, true, true, true] 0 (by kernel_rfl) (by kernel_rfl) (by decide) (by kernel_rfl) hS (fun K hK => ?_)
        simp only [Mix.pick]
        repeat (go_big_quiet_step (fail))
        refine wpQuiet_nil (hK _ ?_)
        clear hK K
        refine MixH.done (by kernel_rfl) ?_
        have HS9 : Hid (Below w.heap.size w wD) := hS.2.2.2.2.2.2
        clear hS
        go_wp2
        go_ret
        exact ⟨rfl, HS9.out⟩
  · rw [prO_no (by simpa using hv)]
    clear hv
    go_wp2_with (refine wpList_load_ipr (.tmp 7) rfl B2 U y rfl H1.out.2.1 rfl ?_)
    refine (printIP_any U y w1 HY.out (HG.out.below H1.out.2.2.2.2.2.2)).mono ?_
    rintro e w2 ⟨rfl, hb⟩
    have H2 : Hid (IprAt w2 B1 V x ∧ IprAt w2 B2 U y ∧ PfxAt w2 B3 p ∧ PfxAt w2 B4 q ∧ MacAt w2 B5 m ∧ MacAt w2 B6 n ∧ Below w.heap.size w w2) := ⟨H1.out.1.below hb, H1.out.2.1.below hb, H1.out.2.2.1.below hb, H1.out.2.2.2.1.below hb, H1.out.2.2.2.2.1.below hb, H1.out.2.2.2.2.2.1.below hb, H1.out.2.2.2.2.2.2.trans (hb.mono H1.out.2.2.2.2.2.2.size)⟩
    clear hb
    obtain ⟨S2, E2, hP⟩ := prO_tuple U y
    rw [hP]
    clear hP
    go_wp2_with fail
    refine (num4_any _ w2).mono ?_
    rintro e wz ⟨rfl, rfl⟩
    go_wp2_with (refine wpList_load_pfx (.tmp 8) rfl B3 p rfl H2.out.2.2.1 rfl ?_)
    refine (printPfx_any p w2 HPX.out (HG.out.below H2.out.2.2.2.2.2.2)).mono ?_
    rintro e w3 ⟨rfl, hb⟩
    have H3 : Hid (IprAt w3 B1 V x ∧ IprAt w3 B2 U y ∧ PfxAt w3 B3 p ∧ PfxAt w3 B4 q ∧ MacAt w3 B5 m ∧ MacAt w3 B6 n ∧ Below w.heap.size w w3) := ⟨H2.out.1.below hb, H2.out.2.1.below hb, H2.out.2.2.1.below hb, H2.out.2.2.2.1.below hb, H2.out.2.2.2.2.1.below hb, H2.out.2.2.2.2.2.1.below hb, H2.out.2.2.2.2.2.2.trans (hb.mono H2.out.2.2.2.2.2.2.size)⟩
    clear hb
    by_cases hp : vpE p = 0
    · rw [pfO_yes hp]
      have HVP : Hid (vpE p = 0) := hp
      clear hp
      go_wp2_with (refine wpList_load_pfx (.tmp 9) rfl B4 q rfl H3.out.2.2.2.1 rfl ?_)
      refine (printPfx_any q w3 HQX.out (HG.out.below H3.out.2.2.2.2.2.2)).mono ?_
      rintro e w4 ⟨rfl, hb⟩
      have H4 : Hid (IprAt w4 B1 V x ∧ IprAt w4 B2 U y ∧ PfxAt w4 B3 p ∧ PfxAt w4 B4 q ∧ MacAt w4 B5 m ∧ MacAt w4 B6 n ∧ Below w.heap.size w w4) := ⟨H3.out.1.below hb, H3.out.2.1.below hb, H3.out.2.2.1.below hb, H3.out.2.2.2.1.below hb, H3.out.2.2.2.2.1.below hb, H3.out.2.2.2.2.2.1.below hb, H3.out.2.2.2.2.2.2.trans (hb.mono H3.out.2.2.2.2.2.2.size)⟩
      clear hb
      by_cases hq : vpE q = 0
      · rw [pfO_yes hq]
        have HVQ : Hid (vpE q = 0) := hq
        obtain ⟨b2, hb2⟩ : ∃ b2, ((p.V == q.V && same16 p.x q.x) && p.n == q.n) = b2 := ⟨_, rfl⟩
        have HB2 : Hid (((p.V == q.V && same16 p.x q.x) && p.n == q.n) = b2) := hb2
        have HQP : Hid (((txB (prPF p)).toList == (txB (prPF q)).toList) = b2) := (pf_beq HVP.out hq HPX.out HQX.out).trans hb2
        clear hq hb2
        go_wp2_with fail
        refine (num4_any _ w4).mono ?_
        rintro e wz ⟨rfl, rfl⟩
        go_wp2_with fail
        refine (num4_any _ w4).mono ?_
        rintro e wz ⟨rfl, rfl⟩
        go_wp2_with (first | (refine wpList_load_pfx (.tmp 8) rfl B3 p rfl H4.out.2.2.1 rfl ?_) | (refine wpList_load_pfx (.tmp 9) rfl B4 q rfl H4.out.2.2.2.1 rfl ?_) | (refine wpList_eql_pfx (.tmp 70) (.tmp 71) rfl p q rfl rfl b2 HB2.out rfl ?_) | (refine wpList_neq_bb (.tmp 69) (.tmp 72) rfl ((txB (prPF p)).toList == (txB (prPF q)).toList) b2 rfl rfl HQP.out rfl ?_))
        refine MixH.start (fun A => IprAt A B1 V x ∧ IprAt A B2 U y ∧ PfxAt A B3 p ∧ PfxAt A B4 q ∧ MacAt A B5 m ∧ MacAt A B6 n ∧ Below w.heap.size w A) (by kernel_rfl) ?_
        obtain ⟨wA, hwA⟩ : ∃ W_, W_ = w4.drew := ⟨_, rfl⟩
        have bdr : Below w4.heap.size w4 wA := by rw [hwA]; exact (Below.refl _ _).drew
        have hS : IprAt wA B1 V x ∧ IprAt wA B2 U y ∧ PfxAt wA B3 p ∧ PfxAt wA B4 q ∧ MacAt wA B5 m ∧ MacAt wA B6 n ∧ Below w.heap.size w wA := ⟨H4.out.1.below bdr, H4.out.2.1.below bdr, H4.out.2.2.1.below bdr, H4.out.2.2.2.1.below bdr, H4.out.2.2.2.2.1.below bdr, H4.out.2.2.2.2.2.1.below bdr, H4.out.2.2.2.2.2.2.trans (bdr.mono H4.out.2.2.2.2.2.2.size)⟩
        rw [← hwA]
        clear hwA bdr
        refine MixH.one [true] 12 0 _ rfl rfl (by kernel_rfl) (by kernel_rfl) (fun K hK => ?_)
        simp only [Mix.pick]
        go_wp2_with fail
        refine Calls.mono (started_any wA (HG.out.p.below hS.2.2.2.2.2.2) (HG.out.s.old hS.2.2.2.2.2.2)) ?_
        rintro e wB ⟨rfl, hb⟩
        replace hS : IprAt wB B1 V x ∧ IprAt wB B2 U y ∧ PfxAt wB B3 p ∧ PfxAt wB B4 q ∧ MacAt wB B5 m ∧ MacAt wB B6 n ∧ Below w.heap.size w wB := ⟨hS.1.below hb, hS.2.1.below hb, hS.2.2.1.below hb, hS.2.2.2.1.below hb, hS.2.2.2.2.1.below hb, hS.2.2.2.2.2.1.below hb, hS.2.2.2.2.2.2.trans (hb.mono hS.2.2.2.2.2.2.size)⟩
        clear hb
        go_wp2_with fail
        refine ⟨rfl, hK _ _ hS ?_⟩
        clear hK K
        refine MixH.takes [false, true] 11 (by kernel_rfl) (by kernel_rfl) (by decide) (by kernel_rfl) hS (fun K hK => ?_)
        simp only [Mix.pick]
        repeat (go_big_quiet_step (fail))
        refine wpQuiet_nil (hK _ ?_)
        clear hK K
        refine MixH.take 10 2 _ (.agg (macC m)) rfl (by kernel_rfl) (by kernel_rfl) (by kernel_rfl) (by kernel_rfl) (yields_mac (.tmp 10) rfl B5 0 m rfl rfl (fun A hA => MacAt.all hA.2.2.2.2.1)) hS (fun a' ha => ?_)
        simp only [Act.put, List.setIfInBounds_toArray, List.set_cons_succ, List.set_cons_zero] at ha
        subst ha
        refine MixH.take 9 4 _ (.agg (macC n)) rfl (by kernel_rfl) (by kernel_rfl) (by kernel_rfl) (by kernel_rfl) (yields_mac (.tmp 11) rfl B6 0 n rfl rfl (fun A hA => MacAt.all hA.2.2.2.2.2.1)) hS (fun a' ha => ?_)
        simp only [Act.put, List.setIfInBounds_toArray, List.set_cons_succ, List.set_cons_zero] at ha
        subst ha
        refine MixH.take 8 7 _ (.agg (macC m)) rfl (by kernel_rfl) (by kernel_rfl) (by kernel_rfl) (by kernel_rfl) (yields_mac (.tmp 10) rfl B5 0 m rfl rfl (fun A hA => MacAt.all hA.2.2.2.2.1)) hS (fun a' ha => ?_)
        simp only [Act.put, List.setIfInBounds_toArray, List.set_cons_succ, List.set_cons_zero] at ha
        subst ha
        refine MixH.take 7 8 _ (.agg (macC n)) rfl (by kernel_rfl) (by kernel_rfl) (by kernel_rfl) (by kernel_rfl) (yields_mac (.tmp 11) rfl B6 0 n rfl rfl (fun A hA => MacAt.all hA.2.2.2.2.2.1)) hS (fun a' ha => ?_)
        simp only [Act.put, List.setIfInBounds_toArray, List.set_cons_succ, List.set_cons_zero] at ha
        subst ha
        refine MixH.take 6 9 _ (.bool (same6 m n)) rfl (by kernel_rfl) (by kernel_rfl) (by kernel_rfl) (by kernel_rfl) (yields_eql_mac (.tmp 82) (.tmp 83) rfl m n rfl rfl rfl) hS (fun a' ha => ?_)
        simp only [Act.put, List.setIfInBounds_toArray, List.set_cons_succ, List.set_cons_zero] at ha
        subst ha
        refine MixH.one [false, false, false, true] 5 3 _ rfl rfl (by kernel_rfl) (by kernel_rfl) (fun K hK => ?_)
        simp only [Mix.pick]
        go_wp2_with fail
        refine Calls.mono (printMac_any m wB HM.out) ?_
        rintro e wC ⟨rfl, hb⟩
        replace hS : IprAt wC B1 V x ∧ IprAt wC B2 U y ∧ PfxAt wC B3 p ∧ PfxAt wC B4 q ∧ MacAt wC B5 m ∧ MacAt wC B6 n ∧ Below w.heap.size w wC := ⟨hS.1.below hb, hS.2.1.below hb, hS.2.2.1.below hb, hS.2.2.2.1.below hb, hS.2.2.2.2.1.below hb, hS.2.2.2.2.2.1.below hb, hS.2.2.2.2.2.2.trans (hb.mono hS.2.2.2.2.2.2.size)⟩
        clear hb
        go_wp2_with fail
        refine ⟨rfl, hK _ _ hS ?_⟩
        clear hK K
        refine MixH.one [false, false, false, false, false, true] 4 5 _ rfl rfl (by kernel_rfl) (by kernel_rfl) (fun K hK => ?_)
        simp only [Mix.pick]
        go_wp2_with fail
        refine Calls.mono (printMac_any n wC HN.out) ?_
        rintro e wD ⟨rfl, hb⟩
        replace hS : IprAt wD B1 V x ∧ IprAt wD B2 U y ∧ PfxAt wD B3 p ∧ PfxAt wD B4 q ∧ MacAt wD B5 m ∧ MacAt wD B6 n ∧ Below w.heap.size w wD := ⟨hS.1.below hb, hS.2.1.below hb, hS.2.2.1.below hb, hS.2.2.2.1.below hb, hS.2.2.2.2.1.below hb, hS.2.2.2.2.2.1.below hb, hS.2.2.2.2.2.2.trans (hb.mono hS.2.2.2.2.2.2.size)⟩
        clear hb
        go_wp2_with fail
        refine ⟨rfl, hK _ _ hS ?_⟩
        clear hK K
        refine MixH.one [false, false, false, false, false, false, true] 3 6 _ rfl rfl (by kernel_rfl) (by kernel_rfl) (fun K hK => ?_)
        simp only [Mix.pick]
        go_wp2
        rw [mac_beq HM.out HN.out]
        refine ⟨rfl, hK _ _ hS ?_⟩
        clear hK K
        refine MixH.takes [false, false, false, false, false, false, false, false, false, false, true, true, true] 0 (by kernel_rfl) (by kernel_rfl) (by decide) (by kernel_rfl) hS (fun K hK => ?_)
        simp only [Mix.pick]
        repeat (go_big_quiet_step (fail))
        refine wpQuiet_nil (hK _ ?_)
        clear hK K
        refine MixH.done (by kernel_rfl) ?_
        have HS9 : Hid (Below w.heap.size w wD) := hS.2.2.2.2.2.2
        clear hS
        go_wp2
        go_ret
        exact ⟨rfl, HS9.out⟩
      · rw [pfO_no hq]
        obtain ⟨e4, he4⟩ : ∃ e4, vpE q = e4 := ⟨_, rfl⟩
        have q4 : (((e4 : Nat) : Int) == 0) = false := by rw [← he4]; simp [hq]
        rw [he4]
        clear hq he4
        go_wp2_with fail
        refine (num4_any _ w4).mono ?_
        rintro e wz ⟨rfl, rfl⟩
        go_wp2_with fail
        refine (num4_any _ w4).mono ?_
        rintro e wz ⟨rfl, rfl⟩
        go_wp2_with fail
        refine MixH.start (fun A => IprAt A B1 V x ∧ IprAt A B2 U y ∧ PfxAt A B3 p ∧ PfxAt A B4 q ∧ MacAt A B5 m ∧ MacAt A B6 n ∧ Below w.heap.size w A) (by kernel_rfl) ?_
        obtain ⟨wA, hwA⟩ : ∃ W_, W_ = w4.drew := ⟨_, rfl⟩
        have bdr : Below w4.heap.size w4 wA := by rw [hwA]; exact (Below.refl _ _).drew
        have hS : IprAt wA B1 V x ∧ IprAt wA B2 U y ∧ PfxAt wA B3 p ∧ PfxAt wA B4 q ∧ MacAt wA B5 m ∧ MacAt wA B6 n ∧ Below w.heap.size w wA := ⟨H4.out.1.below bdr, H4.out.2.1.below bdr, H4.out.2.2.1.below bdr, H4.out.2.2.2.1.below bdr, H4.out.2.2.2.2.1.below bdr, H4.out.2.2.2.2.2.1.below bdr, H4.out.2.2.2.2.2.2.trans (bdr.mono H4.out.2.2.2.2.2.2.size)⟩
        rw [← hwA]
        clear hwA bdr
        refine MixH.one [true] 12 0 _ rfl rfl (by kernel_rfl) (by kernel_rfl) (fun K hK => ?_)
        simp only [Mix.pick]
        go_wp2_with fail
        refine Calls.mono (started_any wA (HG.out.p.below hS.2.2.2.2.2.2) (HG.out.s.old hS.2.2.2.2.2.2)) ?_
        rintro e wB ⟨rfl, hb⟩
        replace hS : IprAt wB B1 V x ∧ IprAt wB B2 U y ∧ PfxAt wB B3 p ∧ PfxAt wB B4 q ∧ MacAt wB B5 m ∧ MacAt wB B6 n ∧ Below w.heap.size w wB := ⟨hS.1.below hb, hS.2.1.below hb, hS.2.2.1.below hb, hS.2.2.2.1.below hb, hS.2.2.2.2.1.below hb, hS.2.2.2.2.2.1.below hb, hS.2.2.2.2.2.2.trans (hb.mono hS.2.2.2.2.2.2.size)⟩
        clear hb
        go_wp2_with fail
        refine ⟨rfl, hK _ _ hS ?_⟩
        clear hK K
        refine MixH.takes [false, true] 11 (by kernel_rfl) (by kernel_rfl) (by decide) (by kernel_rfl) hS (fun K hK => ?_)
        simp only [Mix.pick]
        repeat (go_big_quiet_step (fail))
        refine wpQuiet_nil (hK _ ?_)
        clear hK K
        refine MixH.take 10 2 _ (.agg (macC m)) rfl (by kernel_rfl) (by kernel_rfl) (by kernel_rfl) (by kernel_rfl) (yields_mac (.tmp 10) rfl B5 0 m rfl rfl (fun A hA => MacAt.all hA.2.2.2.2.1)) hS (fun a' ha => ?_)
        simp only [Act.put, List.setIfInBounds_toArray, List.set_cons_succ, List.set_cons_zero] at ha
        subst ha
        refine MixH.take 9 4 _ (.agg (macC n)) rfl (by kernel_rfl) (by kernel_rfl) (by kernel_rfl) (by kernel_rfl) (yields_mac (.tmp 11) rfl B6 0 n rfl rfl (fun A hA => MacAt.all hA.2.2.2.2.2.1)) hS (fun a' ha => ?_)
        simp only [Act.put, List.setIfInBounds_toArray, List.set_cons_succ, List.set_cons_zero] at ha
        subst ha
        refine MixH.take 8 7 _ (.agg (macC m)) rfl (by kernel_rfl) (by kernel_rfl) (by kernel_rfl) (by kernel_rfl) (yields_mac (.tmp 10) rfl B5 0 m rfl rfl (fun A hA => MacAt.all hA.2.2.2.2.1)) hS (fun a' ha => ?_)
        simp only [Act.put, List.setIfInBounds_toArray, List.set_cons_succ, List.set_cons_zero] at ha
        subst ha
        refine MixH.take 7 8 _ (.agg (macC n)) rfl (by kernel_rfl) (by kernel_rfl) (by kernel_rfl) (by kernel_rfl) (yields_mac (.tmp 11) rfl B6 0 n rfl rfl (fun A hA => MacAt.all hA.2.2.2.2.2.1)) hS (fun a' ha => ?_)
        simp only [Act.put, List.setIfInBounds_toArray, List.set_cons_succ, List.set_cons_zero] at ha
        subst ha
        refine MixH.take 6 9 _ (.bool (same6 m n)) rfl (by kernel_rfl) (by kernel_rfl) (by kernel_rfl) (by kernel_rfl) (yields_eql_mac (.tmp 82) (.tmp 83) rfl m n rfl rfl rfl) hS (fun a' ha => ?_)
        simp only [Act.put, List.setIfInBounds_toArray, List.set_cons_succ, List.set_cons_zero] at ha
        subst ha
        refine MixH.one [false, false, false, true] 5 3 _ rfl rfl (by kernel_rfl) (by kernel_rfl) (fun K hK => ?_)
        simp only [Mix.pick]
        go_wp2_with fail
        refine Calls.mono (printMac_any m wB HM.out) ?_
        rintro e wC ⟨rfl, hb⟩
        replace hS : IprAt wC B1 V x ∧ IprAt wC B2 U y ∧ PfxAt wC B3 p ∧ PfxAt wC B4 q ∧ MacAt wC B5 m ∧ MacAt wC B6 n ∧ Below w.heap.size w wC := ⟨hS.1.below hb, hS.2.1.below hb, hS.2.2.1.below hb, hS.2.2.2.1.below hb, hS.2.2.2.2.1.below hb, hS.2.2.2.2.2.1.below hb, hS.2.2.2.2.2.2.trans (hb.mono hS.2.2.2.2.2.2.size)⟩
        clear hb
        go_wp2_with fail
        refine ⟨rfl, hK _ _ hS ?_⟩
        clear hK K
        refine MixH.one [false, false, false, false, false, true] 4 5 _ rfl rfl (by kernel_rfl) (by kernel_rfl) (fun K hK => ?_)
        simp only [Mix.pick]
        go_wp2_with fail
        refine Calls.mono (printMac_any n wC HN.out) ?_
        rintro e wD ⟨rfl, hb⟩
        replace hS : IprAt wD B1 V x ∧ IprAt wD B2 U y ∧ PfxAt wD B3 p ∧ PfxAt wD B4 q ∧ MacAt wD B5 m ∧ MacAt wD B6 n ∧ Below w.heap.size w wD := ⟨hS.1.below hb, hS.2.1.below hb, hS.2.2.1.below hb, hS.2.2.2.1.below hb, hS.2.2.2.2.1.below hb, hS.2.2.2.2.2.1.below hb, hS.2.2.2.2.2.2.trans (hb.mono hS.2.2.2.2.2.2.size)⟩
        clear hb
        go_wp2_with fail
        refine ⟨rfl, hK _ _ hS ?_⟩
        clear hK K
        refine MixH.one [false, false, false, false, false, false, true] 3 6 _ rfl rfl (by kernel_rfl) (by kernel_rfl) (fun K hK => ?_)
        simp only [Mix.pick]
        go_wp2
        rw [mac_beq HM.out HN.out]
        refine ⟨rfl, hK _ _ hS ?_⟩
        clear hK K
        refine MixH.takes [false, false, false, false, false, false, false, false, false, false, true, true, true] 0 (by kernel_rfl) (by kernel_rfl) (by decide) (by kernel_rfl) hS (fun K hK => ?_)
        simp only [Mix.pick]
        repeat (go_big_quiet_step (fail))
        refine wpQuiet_nil (hK _ ?_)
        clear hK K
        refine MixH.done (by kernel_rfl) ?_
        have HS9 : Hid (Below w.heap.size w wD) := hS.2.2.2.2.2.2
        clear hS
        go_wp2
        go_ret
        exact ⟨rfl, HS9.out⟩
    · rw [pfO_no hp]
      obtain ⟨e3, he3⟩ : ∃ e3, vpE p = e3 := ⟨_, rfl⟩
      have q3 : (((e3 : Nat) : Int) == 0) = false := by rw [← he3]; simp [hp]
      rw [he3]
      clear hp he3
      go_wp2_with (refine wpList_load_pfx (.tmp 9) rfl B4 q rfl H3.out.2.2.2.1 rfl ?_)
      refine (printPfx_any q w3 HQX.out (HG.out.below H3.out.2.2.2.2.2.2)).mono ?_
      rintro e w4 ⟨rfl, hb⟩
      have H4 : Hid (IprAt w4 B1 V x ∧ IprAt w4 B2 U y ∧ PfxAt w4 B3 p ∧ PfxAt w4 B4 q ∧ MacAt w4 B5 m ∧ MacAt w4 B6 n ∧ Below w.heap.size w w4) := ⟨H3.out.1.below hb, H3.out.2.1.below hb, H3.out.2.2.1.below hb, H3.out.2.2.2.1.below hb, H3.out.2.2.2.2.1.below hb, H3.out.2.2.2.2.2.1.below hb, H3.out.2.2.2.2.2.2.trans (hb.mono H3.out.2.2.2.2.2.2.size)⟩
      clear hb
      obtain ⟨S4, E4, hP⟩ := pfO_tuple q
      rw [hP]
      clear hP
      go_wp2_with fail
      refine (num4_any _ w4).mono ?_
      rintro e wz ⟨rfl, rfl⟩
      go_wp2_with fail
      refine MixH.start (fun A => IprAt A B1 V x ∧ IprAt A B2 U y ∧ PfxAt A B3 p ∧ PfxAt A B4 q ∧ MacAt A B5 m ∧ MacAt A B6 n ∧ Below w.heap.size w A) (by kernel_rfl) ?_
      obtain ⟨wA, hwA⟩ : ∃ W_, W_ = w4.drew := ⟨_, rfl⟩
      have bdr : Below w4.heap.size w4 wA := by rw [hwA]; exact (Below.refl _ _).drew
      have hS : IprAt wA B1 V x ∧ IprAt wA B2 U y ∧ PfxAt wA B3 p ∧ PfxAt wA B4 q ∧ MacAt wA B5 m ∧ MacAt wA B6 n ∧ Below w.heap.size w wA := ⟨H4.out.1.below bdr, H4.out.2.1.below bdr, H4.out.2.2.1.below bdr, H4.out.2.2.2.1.below bdr, H4.out.2.2.2.2.1.below bdr, H4.out.2.2.2.2.2.1.below bdr, H4.out.2.2.2.2.2.2.trans (bdr.mono H4.out.2.2.2.2.2.2.size)⟩
      rw [← hwA]
      clear hwA bdr
      refine MixH.one [true] 12 0 _ rfl rfl (by kernel_rfl) (by kernel_rfl) (fun K hK => ?_)
      simp only [Mix.pick]
      go_wp2_with fail
      refine Calls.mono (started_any wA (HG.out.p.below hS.2.2.2.2.2.2) (HG.out.s.old hS.2.2.2.2.2.2)) ?_
      rintro e wB ⟨rfl, hb⟩
      replace hS : IprAt wB B1 V x ∧ IprAt wB B2 U y ∧ PfxAt wB B3 p ∧ PfxAt wB B4 q ∧ MacAt wB B5 m ∧ MacAt wB B6 n ∧ Below w.heap.size w wB := ⟨hS.1.below hb, hS.2.1.below hb, hS.2.2.1.below hb, hS.2.2.2.1.below hb, hS.2.2.2.2.1.below hb, hS.2.2.2.2.2.1.below hb, hS.2.2.2.2.2.2.trans (hb.mono hS.2.2.2.2.2.2.size)⟩
      clear hb
      go_wp2_with fail
      refine ⟨rfl, hK _ _ hS ?_⟩
      clear hK K
      refine MixH.takes [false, true] 11 (by kernel_rfl) (by kernel_rfl) (by decide) (by kernel_rfl) hS (fun K hK => ?_)
      simp only [Mix.pick]
      repeat (go_big_quiet_step (fail))
      refine wpQuiet_nil (hK _ ?_)
      clear hK K
      refine MixH.take 10 2 _ (.agg (macC m)) rfl (by kernel_rfl) (by kernel_rfl) (by kernel_rfl) (by kernel_rfl) (yields_mac (.tmp 10) rfl B5 0 m rfl rfl (fun A hA => MacAt.all hA.2.2.2.2.1)) hS (fun a' ha => ?_)
      simp only [Act.put, List.setIfInBounds_toArray, List.set_cons_succ, List.set_cons_zero] at ha
      subst ha
      refine MixH.take 9 4 _ (.agg (macC n)) rfl (by kernel_rfl) (by kernel_rfl) (by kernel_rfl) (by kernel_rfl) (yields_mac (.tmp 11) rfl B6 0 n rfl rfl (fun A hA => MacAt.all hA.2.2.2.2.2.1)) hS (fun a' ha => ?_)
      simp only [Act.put, List.setIfInBounds_toArray, List.set_cons_succ, List.set_cons_zero] at ha
      subst ha
      refine MixH.take 8 7 _ (.agg (macC m)) rfl (by kernel_rfl) (by kernel_rfl) (by kernel_rfl) (by kernel_rfl) (yields_mac (.tmp 10) rfl B5 0 m rfl rfl (fun A hA => MacAt.all hA.2.2.2.2.1)) hS (fun a' ha => ?_)
      simp only [Act.put, List.setIfInBounds_toArray, List.set_cons_succ, List.set_cons_zero] at ha
      subst ha
      refine MixH.take 7 8 _ (.agg (macC n)) rfl (by kernel_rfl) (by kernel_rfl) (by kernel_rfl) (by kernel_rfl) (yields_mac (.tmp 11) rfl B6 0 n rfl rfl (fun A hA => MacAt.all hA.2.2.2.2.2.1)) hS (fun a' ha => ?_)
      simp only [Act.put, List.setIfInBounds_toArray, List.set_cons_succ, List.set_cons_zero] at ha
      subst ha
      refine MixH.take 6 9 _ (.bool (same6 m n)) rfl (by kernel_rfl) (by kernel_rfl) (by kernel_rfl) (by kernel_rfl) (yields_eql_mac (.tmp 82) (.tmp 83) rfl m n rfl rfl rfl) hS (fun a' ha => ?_)
      simp only [Act.put, List.setIfInBounds_toArray, List.set_cons_succ, List.set_cons_zero] at ha
      subst ha
      refine MixH.one [false, false, false, true] 5 3 _ rfl rfl (by kernel_rfl) (by kernel_rfl) (fun K hK => ?_)
      simp only [Mix.pick]
      go_wp2_with fail
      refine Calls.mono (printMac_any m wB HM.out) ?_
      rintro e wC ⟨rfl, hb⟩
      replace hS : IprAt wC B1 V x ∧ IprAt wC B2 U y ∧ PfxAt wC B3 p ∧ PfxAt wC B4 q ∧ MacAt wC B5 m ∧ MacAt wC B6 n ∧ Below w.heap.size w wC := ⟨hS.1.below hb, hS.2.1.below hb, hS.2.2.1.below hb, hS.2.2.2.1.below hb, hS.2.2.2.2.1.below hb, hS.2.2.2.2.2.1.below hb, hS.2.2.2.2.2.2.trans (hb.mono hS.2.2.2.2.2.2.size)⟩
      clear hb
      go_wp2_with fail
      refine ⟨rfl, hK _ _ hS ?_⟩
      clear hK K
      refine MixH.one [false, false, false, false, false, true] 4 5 _ rfl rfl (by kernel_rfl) (by kernel_rfl) (fun K hK => ?_)
      simp only [Mix.pick]
      go_wp2_with fail
      refine Calls.mono (printMac_any n wC HN.out) ?_
      rintro e wD ⟨rfl, hb⟩
      replace hS : IprAt wD B1 V x ∧ IprAt wD B2 U y ∧ PfxAt wD B3 p ∧ PfxAt wD B4 q ∧ MacAt wD B5 m ∧ MacAt wD B6 n ∧ Below w.heap.size w wD := ⟨hS.1.below hb, hS.2.1.below hb, hS.2.2.1.below hb, hS.2.2.2.1.below hb, hS.2.2.2.2.1.below hb, hS.2.2.2.2.2.1.below hb, hS.2.2.2.2.2.2.trans (hb.mono hS.2.2.2.2.2.2.size)⟩
      clear hb
      go_wp2_with fail
      refine ⟨rfl, hK _ _ hS ?_⟩
      clear hK K
      refine MixH.one [false, false, false, false, false, false, true] 3 6 _ rfl rfl (by kernel_rfl) (by kernel_rfl) (fun K hK => ?_)
      simp only [Mix.pick]
      go_wp2
      rw [mac_beq HM.out HN.out]
      refine ⟨rfl, hK _ _ hS ?_⟩
      clear hK K
      refine MixH.takes [false, false, false, false, false, false, false, false, false, false, true, true, true] 0 (by kernel_rfl) (by kernel_rfl) (by decide) (by kernel_rfl) hS (fun K hK => ?_)
      simp only [Mix.pick]
      repeat (go_big_quiet_step (fail))
      refine wpQuiet_nil (hK _ ?_)
      clear hK K
      refine MixH.done (by kernel_rfl) ?_
      have HS9 : Hid (Below w.heap.size w wD) := hS.2.2.2.2.2.2
      clear hS
      go_wp2
      go_ret
      exact ⟨rfl, HS9.out⟩
end Go.Proofs.YtfeabifjnihooaaDoor
