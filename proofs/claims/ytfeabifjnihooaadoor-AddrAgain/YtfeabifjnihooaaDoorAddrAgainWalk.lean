/-
  weirlaw4.AddrAgain: the walk.
-/
import Derived.Test.YtfeabifjnihooaaDoorAdSta
import Derived.Test.YtfeabifjnihooaaDoorAdY7
namespace Go.Proofs.YtfeabifjnihooaaDoor
open Go.RowKit Go.Maps

theorem wpList_eql_ipb {ops : Array Oper} {rest : List Oper} {o : Oper} {a : Act} {w : World} {Q : Exit → Act → World → Prop} (X Y : Operand) (ho : o.op = .binOp .eql 27 X Y 27) (V U : Int) (x y : Nat → Nat) (hx : a.eval X = .agg (ipCells V x)) (hy : a.eval Y = .agg (ipCells U y)) (b : Bool) (hbb : (V == U && same16 x y) = b)
    (hw : Region.wanted o (yielded ops a.tmps) = true) (h : wpList Tryd.prog ops Q rest (a.put o.dst (.bool b)) w) : wpList Tryd.prog ops Q (o :: rest) a w := by
  subst hbb
  exact wpList_eql_ip X Y ho V U x y hx hy hw h
theorem Tryd.pfxFields : Tryd.prog.underlying 37 = some (.struct (Tryd.prog.fieldsOf 37)) := by kernel_rfl
theorem Tryd.pfxStood : Tryd.prog.stoodInHeld 37 = false := by kernel_rfl
theorem Tryd.pfxGuard : Tryd.prog.eqGuardType Tryd.prog.depth 37 = false := by kernel_rfl
theorem pfx_part0 (p : PV) (w : World) : (part 27 (pfC p) 0).run Tryd.prog w = .ok (.agg (ipCells p.V p.x)) w := by kernel_rfl
theorem pfx_part17 (p : PV) (w : World) : (part 3 (pfC p) 17).run Tryd.prog w = .ok (.int .i64 p.n) w := by kernel_rfl
set_option maxHeartbeats 1600000 in
set_option maxRecDepth 100000 in
theorem eq_pfx (p q : PV) (w : World) : (Op.equalIn 10000 37 (.agg (pfC p)) (.agg (pfC q))).run Tryd.prog w = .ok ((p.V == q.V && same16 p.x q.x) && p.n == q.n) w := by
  rw [show (10000 : Nat) = 9999 + 1 from rfl, run_equalIn_struct w 9999 37 _ _ Tryd.pfxFields Tryd.pfxStood]
  rw [show (Tryd.prog.fieldsOf 37).toList = [{ name := "IP", type := 27, offset := 0, embedded := false, tag := "", pkgPath := "", byteOffset := 0 }, { name := "Len", type := 3, offset := 17, embedded := false, tag := "", pkgPath := "", byteOffset := 24 }] from by kernel_rfl]
  have ii : (Op.equalIn 9999 3 (.int .i64 p.n) (.int .i64 q.n)).run Tryd.prog w = .ok (p.n == q.n) w := by
    rw [show (9999 : Nat) = 9998 + 1 from rfl, run_equalIn_int w 9998 3 .i64 .i64 p.n q.n Tryd.underlying3]
  have ip : (Op.equalIn 9999 27 (.agg (ipCells p.V p.x)) (.agg (ipCells q.V q.x))).run Tryd.prog w = .ok (p.V == q.V && same16 p.x q.x) w := eqIP p.V q.V p.x q.x w 9996
  cases hb : (p.V == q.V && same16 p.x q.x) with
  | true =>
    rw [hb] at ip
    cases hn : (p.n == q.n) <;> rw [hn] at ii <;> simp [Op.eqFields, Sem.run_bind, Sem.run_ite, pfx_part0, pfx_part17, ii, ip]
  | false =>
    rw [hb] at ip
    simp [Op.eqFields, Sem.run_bind, Sem.run_ite, pfx_part0, pfx_part17, ip]
theorem wpList_eql_pfx {ops : Array Oper} {rest : List Oper} {o : Oper} {a : Act} {w : World} {Q : Exit → Act → World → Prop} (X Y : Operand) (ho : o.op = .binOp .eql 37 X Y 37) (p q : PV) (hx : a.eval X = .agg (pfC p)) (hy : a.eval Y = .agg (pfC q)) (b : Bool) (hbb : ((p.V == q.V && same16 p.x q.x) && p.n == q.n) = b)
    (hw : Region.wanted o (yielded ops a.tmps) = true) (hh : wpList Tryd.prog ops Q rest (a.put o.dst (.bool b)) w) : wpList Tryd.prog ops Q (o :: rest) a w := by
  refine wpList_step fun K hK => ?_
  rw [if_pos hw]
  have hrun : (execOp a.eval o).run Tryd.prog w = .ok (.value (.bool b)) w := by
    subst hbb
    obtain ⟨dst, op, type, pos, after, guard⟩ := o
    simp only at ho
    subst ho
    simp only [execOp, Sem.run_bind, Sem.run_pure, hx, hy, run_eqGuard_agg w .eql 37 _ _ _ _ Tryd.pfxGuard, Result.andThen_ok, run_eql_struct, eq_pfx]
  unfold Oper.wp
  rw [hrun]
  exact hK _ _ hh
theorem wpList_neq_ipb {ops : Array Oper} {rest : List Oper} {o : Oper} {a : Act} {w : World} {Q : Exit → Act → World → Prop} (X Y : Operand) (ho : o.op = .binOp .neq 27 X Y 27) (V U : Int) (x y : Nat → Nat) (hx : a.eval X = .agg (ipCells V x)) (hy : a.eval Y = .agg (ipCells U y)) (hbb : (V == U && same16 x y) = true)
    (hw : Region.wanted o (yielded ops a.tmps) = true) (hh : wpList Tryd.prog ops Q rest (a.put o.dst (.bool false)) w) : wpList Tryd.prog ops Q (o :: rest) a w := by
  refine wpList_step fun K hK => ?_
  rw [if_pos hw]
  have hrun : (execOp a.eval o).run Tryd.prog w = .ok (.value (.bool false)) w := by
    obtain ⟨dst, op, type, pos, after, guard⟩ := o
    simp only at ho
    subst ho
    simp only [execOp, Sem.run_bind, Sem.run_pure, hx, hy, run_eqGuard_agg w .neq 27 _ _ _ _ Tryd.ipGuard, Result.andThen_ok, run_neq_struct, eqIP V U x y w 9997, hbb, Bool.not_true]
  unfold Oper.wp
  rw [hrun]
  exact hK _ _ hh
theorem wpList_neq_pfx {ops : Array Oper} {rest : List Oper} {o : Oper} {a : Act} {w : World} {Q : Exit → Act → World → Prop} (X Y : Operand) (ho : o.op = .binOp .neq 37 X Y 37) (p q : PV) (hx : a.eval X = .agg (pfC p)) (hy : a.eval Y = .agg (pfC q)) (hbb : ((p.V == q.V && same16 p.x q.x) && p.n == q.n) = true)
    (hw : Region.wanted o (yielded ops a.tmps) = true) (hh : wpList Tryd.prog ops Q rest (a.put o.dst (.bool false)) w) : wpList Tryd.prog ops Q (o :: rest) a w := by
  refine wpList_step fun K hK => ?_
  rw [if_pos hw]
  have hrun : (execOp a.eval o).run Tryd.prog w = .ok (.value (.bool false)) w := by
    obtain ⟨dst, op, type, pos, after, guard⟩ := o
    simp only at ho
    subst ho
    simp only [execOp, Sem.run_bind, Sem.run_pure, hx, hy, run_eqGuard_agg w .neq 37 _ _ _ _ Tryd.pfxGuard, Result.andThen_ok, run_neq_struct, eq_pfx p q w, hbb, Bool.not_true]
  unfold Oper.wp
  rw [hrun]
  exact hK _ _ hh
set_option maxHeartbeats 4000000 in
set_option maxRecDepth 100000 in
theorem addrAgain.walk (w : World) (hT : Gl4 w) (s : ByteArray) : Calls Tryd.prog 7 #[.string s] w fun r w' => r = .returned (.bool true) ∧ Below w.heap.size w w' := by
  have hTT : Hid (Gl4 w) := hT
  have H0 : Hid (Below w.heap.size w w) := Below.refl _ _
  clear hT
  go_enter Tryd.func7, Tryd.ntmps7
  go_wp2_with fail
  refine (parseIP_any s w).mono ?_
  rintro e w1 ⟨rfl, hb⟩
  have H2 : Hid (Below w.heap.size w w1) := H0.out.trans (hb.mono H0.out.size)
  clear hb
  cases hp1 : pIP s with
  | inl Vx =>
    obtain ⟨V, x⟩ := Vx
    have HV : Hid (vld V x = true ∧ ∀ i, i < 16 → x i < 256) := ⟨pIP_ok hp1, fun i _ => pIP_lt hp1 i⟩
    show _
    simp only [ipO]
    clear hp1
    obtain ⟨O1, hO⟩ : ∃ O_, O_ = w1.heap.size := ⟨_, rfl⟩
    have HOO1 : Hid (w1.heap.size = O1) := hO.symm
    clear hO
    go_wp2_with (refine wpList_store_ipr (.tmp 3) (.tmp 25) rfl rfl w1.heap.size 0 (fun _ => 0) V x rfl rfl (ipr_new w1 0 (fun _ => 0)) rfl ?_)
    intro w3 hRE kE
    rw [HOO1.out] at hRE kE ⊢
    have bN : Below w1.heap.size w1 w3 := ((Below.refl _ _).alloc (Nat.le_refl _) _).trans (kE.below (fun q h => by have h' : q = O1 := h; have := HOO1.out; omega) (by rw [World.size_alloc]; omega))
    have H4 : Hid (IprAt w3 O1 V x ∧ Below w.heap.size w w3) := ⟨hRE, H2.out.trans (bN.mono H2.out.size)⟩
    clear hRE kE bN
    go_wp2_with fail
    refine (num4_any _ w3).mono ?_
    rintro e wz ⟨rfl, rfl⟩
    go_wp2_with (refine wpList_load_ipr (.tmp 3) rfl O1 V x rfl H4.out.1 rfl ?_)
    refine (printIP_any V x w3 HV.out.2 (hTT.out.below H4.out.2)).mono ?_
    rintro e w5 ⟨rfl, hb⟩
    have H6 : Hid (IprAt w5 O1 V x ∧ Below w.heap.size w w5) := ⟨H4.out.1.below hb, H4.out.2.trans (hb.mono H4.out.2.size)⟩
    clear hb
    rw [prO_yes HV.out.1]
    obtain ⟨y, hy, hyx⟩ := print_back (s := txB (prIP V x)) HV.out.1 HV.out.2 (txB_drp fun c hc => (prIP_chr HV.out.2 c hc).1)
    have HPI : Hid (pIP (txB (prIP V x)) = .inl (V, y) ∧ (V == V && same16 x y) = true) := ⟨hy, by rw [beq_self_eq_true, Bool.true_and]; exact (same16_iff x y).2 (fun i hi => (hyx i hi).symm)⟩
    clear hy hyx
    go_wp2_with fail
    refine (parseIP_any (txB (prIP V x)) w5).mono ?_
    rintro e w7 ⟨rfl, hb⟩
    have H8 : Hid (IprAt w7 O1 V x ∧ Below w.heap.size w w7) := ⟨H6.out.1.below hb, H6.out.2.trans (hb.mono H6.out.2.size)⟩
    clear hb
    rw [HPI.out.1]
    show _
    simp only [ipO]
    obtain ⟨O2, hO⟩ : ∃ O_, O_ = w7.heap.size := ⟨_, rfl⟩
    have HOO2 : Hid (w7.heap.size = O2) := hO.symm
    clear hO
    go_wp2_with (refine wpList_store_ipr (.tmp 8) (.tmp 39) rfl rfl w7.heap.size 0 (fun _ => 0) V y rfl rfl (ipr_new w7 0 (fun _ => 0)) rfl ?_)
    intro w9 hRE kE
    rw [HOO2.out] at hRE kE ⊢
    have bN : Below w7.heap.size w7 w9 := ((Below.refl _ _).alloc (Nat.le_refl _) _).trans (kE.below (fun q h => by have h' : q = O2 := h; have := HOO2.out; omega) (by rw [World.size_alloc]; omega))
    have H10 : Hid (IprAt w9 O1 V x ∧ IprAt w9 O2 V y ∧ Below w.heap.size w w9) := ⟨H8.out.1.below bN, hRE, H8.out.2.trans (bN.mono H8.out.2.size)⟩
    clear hRE kE bN
    go_wp2_with fail
    refine (num4_any _ w9).mono ?_
    rintro e wz ⟨rfl, rfl⟩
    go_wp2_with fail
    refine (num4_any _ w9).mono ?_
    rintro e wz ⟨rfl, rfl⟩
    go_wp2_with (first | (refine wpList_load_ipr (.tmp 3) rfl O1 V x rfl H10.out.1 rfl ?_) | (refine wpList_load_ipr (.tmp 8) rfl O2 V y rfl H10.out.2.1 rfl ?_) | (refine wpList_neq_ipb (.tmp 51) (.tmp 52) rfl V V x y rfl rfl HPI.out.2 rfl ?_))
    refine (valid_any V x w9 HV.out.2).mono ?_
    rintro e w11 ⟨rfl, hb⟩
    have H12 : Hid (IprAt w11 O1 V x ∧ IprAt w11 O2 V y ∧ Below w.heap.size w w11) := ⟨H10.out.1.below hb, H10.out.2.1.below hb, H10.out.2.2.trans (hb.mono H10.out.2.2.size)⟩
    clear hb
    rw [HV.out.1]
    go_wp2_with fail
    refine (parsePfx_any s w11).mono ?_
    rintro e w13 ⟨rfl, hb⟩
    have H14 : Hid (IprAt w13 O1 V x ∧ IprAt w13 O2 V y ∧ Below w.heap.size w w13) := ⟨H12.out.1.below hb, H12.out.2.1.below hb, H12.out.2.2.trans (hb.mono H12.out.2.2.size)⟩
    clear hb
    cases hp2 : pPF s with
    | inl pp =>
      have HVP : Hid (vpE pp = 0 ∧ ∀ i, i < 16 → pp.x i < 256) := ⟨(pPF_ok hp2).1, fun i _ => (pPF_ok hp2).2 i⟩
      show _
      simp only [pxO]
      clear hp2
      obtain ⟨O3, hO⟩ : ∃ O_, O_ = w13.heap.size := ⟨_, rfl⟩
      have HOO3 : Hid (w13.heap.size = O3) := hO.symm
      clear hO
      go_wp2_with (refine wpList_store_pfx (.tmp 11) (.tmp 80) rfl rfl w13.heap.size pz pp rfl rfl (pfx_new w13 pz) rfl ?_)
      intro w15 hRE kE
      rw [HOO3.out] at hRE kE ⊢
      have bN : Below w13.heap.size w13 w15 := ((Below.refl _ _).alloc (Nat.le_refl _) _).trans (kE.below (fun q h => by have h' : q = O3 := h; have := HOO3.out; omega) (by rw [World.size_alloc]; omega))
      have H16 : Hid (IprAt w15 O1 V x ∧ IprAt w15 O2 V y ∧ PfxAt w15 O3 pp ∧ Below w.heap.size w w15) := ⟨H14.out.1.below bN, H14.out.2.1.below bN, hRE, H14.out.2.2.trans (bN.mono H14.out.2.2.size)⟩
      clear hRE kE bN
      go_wp2_with fail
      refine (num4_any _ w15).mono ?_
      rintro e wz ⟨rfl, rfl⟩
      go_wp2_with (refine wpList_load_pfx (.tmp 11) rfl O3 pp rfl H16.out.2.2.1 rfl ?_)
      refine (printPfx_any pp w15 HVP.out.2 (hTT.out.below H16.out.2.2.2)).mono ?_
      rintro e w17 ⟨rfl, hb⟩
      have H18 : Hid (IprAt w17 O1 V x ∧ IprAt w17 O2 V y ∧ PfxAt w17 O3 pp ∧ Below w.heap.size w w17) := ⟨H16.out.1.below hb, H16.out.2.1.below hb, H16.out.2.2.1.below hb, H16.out.2.2.2.trans (hb.mono H16.out.2.2.2.size)⟩
      clear hb
      rw [pfO_yes HVP.out.1]
      obtain ⟨z, hz, hzx⟩ := pf_back HVP.out.1 HVP.out.2
      obtain ⟨qq, hqq⟩ : ∃ qq : PV, qq = ⟨pp.V, z, pp.n⟩ := ⟨_, rfl⟩
      have HPF : Hid (pPF (txB (prPF pp)) = .inl qq ∧ ((pp.V == qq.V && same16 pp.x qq.x) && pp.n == qq.n) = true) := ⟨by rw [hqq]; exact hz, by rw [hqq]; simp only [beq_self_eq_true, Bool.true_and, Bool.and_true]; exact (same16_iff pp.x z).2 (fun i hi => (hzx i hi).symm)⟩
      clear hz hzx hqq
      go_wp2_with fail
      refine (parsePfx_any (txB (prPF pp)) w17).mono ?_
      rintro e w19 ⟨rfl, hb⟩
      have H20 : Hid (IprAt w19 O1 V x ∧ IprAt w19 O2 V y ∧ PfxAt w19 O3 pp ∧ Below w.heap.size w w19) := ⟨H18.out.1.below hb, H18.out.2.1.below hb, H18.out.2.2.1.below hb, H18.out.2.2.2.trans (hb.mono H18.out.2.2.2.size)⟩
      clear hb
      rw [HPF.out.1]
      show _
      simp only [pxO]
      obtain ⟨O4, hO⟩ : ∃ O_, O_ = w19.heap.size := ⟨_, rfl⟩
      have HOO4 : Hid (w19.heap.size = O4) := hO.symm
      clear hO
      go_wp2_with (refine wpList_store_pfx (.tmp 14) (.tmp 94) rfl rfl w19.heap.size pz qq rfl rfl (pfx_new w19 pz) rfl ?_)
      intro w21 hRE kE
      rw [HOO4.out] at hRE kE ⊢
      have bN : Below w19.heap.size w19 w21 := ((Below.refl _ _).alloc (Nat.le_refl _) _).trans (kE.below (fun q h => by have h' : q = O4 := h; have := HOO4.out; omega) (by rw [World.size_alloc]; omega))
      have H22 : Hid (IprAt w21 O1 V x ∧ IprAt w21 O2 V y ∧ PfxAt w21 O3 pp ∧ PfxAt w21 O4 qq ∧ Below w.heap.size w w21) := ⟨H20.out.1.below bN, H20.out.2.1.below bN, H20.out.2.2.1.below bN, hRE, H20.out.2.2.2.trans (bN.mono H20.out.2.2.2.size)⟩
      clear hRE kE bN
      go_wp2_with fail
      refine (num4_any _ w21).mono ?_
      rintro e wz ⟨rfl, rfl⟩
      go_wp2_with fail
      refine (num4_any _ w21).mono ?_
      rintro e wz ⟨rfl, rfl⟩
      go_wp2_with (first | (refine wpList_load_pfx (.tmp 11) rfl O3 pp rfl H22.out.2.2.1 rfl ?_) | (refine wpList_load_pfx (.tmp 14) rfl O4 qq rfl H22.out.2.2.2.1 rfl ?_) | (refine wpList_neq_pfx (.tmp 106) (.tmp 107) rfl pp qq rfl rfl HPF.out.2 rfl ?_))
      refine (vpref_any pp w21 HVP.out.2).mono ?_
      rintro e w23 ⟨rfl, hb⟩
      have H24 : Hid (IprAt w23 O1 V x ∧ IprAt w23 O2 V y ∧ PfxAt w23 O3 pp ∧ PfxAt w23 O4 qq ∧ Below w.heap.size w w23) := ⟨H22.out.1.below hb, H22.out.2.1.below hb, H22.out.2.2.1.below hb, H22.out.2.2.2.1.below hb, H22.out.2.2.2.2.trans (hb.mono H22.out.2.2.2.2.size)⟩
      clear hb
      rw [HVP.out.1]
      go_wp2_with fail
      refine (num4_any _ w23).mono ?_
      rintro e wz ⟨rfl, rfl⟩
      go_wp2_with fail
      refine (parseMac_any s w23).mono ?_
      rintro e w25 ⟨rfl, hb⟩
      have H26 : Hid (IprAt w25 O1 V x ∧ IprAt w25 O2 V y ∧ PfxAt w25 O3 pp ∧ PfxAt w25 O4 qq ∧ Below w.heap.size w w25) := ⟨H24.out.1.below hb, H24.out.2.1.below hb, H24.out.2.2.1.below hb, H24.out.2.2.2.1.below hb, H24.out.2.2.2.2.trans (hb.mono H24.out.2.2.2.2.size)⟩
      clear hb
      cases hp3 : pMC s with
      | inl u =>
        have HU : Hid (∀ i, i < 6 → u i < 256) := fun i _ => pMC_lt hp3 i
        show _
        simp only [mcO]
        clear hp3
        obtain ⟨O5, hO⟩ : ∃ O_, O_ = w25.heap.size := ⟨_, rfl⟩
        have HOO5 : Hid (w25.heap.size = O5) := hO.symm
        clear hO
        go_wp2_with (refine wpList_store_mac (.tmp 17) (.tmp 132) rfl rfl w25.heap.size mz u rfl rfl (mac_new w25 mz) rfl ?_)
        intro w27 hRE kE
        rw [HOO5.out] at hRE kE ⊢
        have bN : Below w25.heap.size w25 w27 := ((Below.refl _ _).alloc (Nat.le_refl _) _).trans (kE.below (fun q h => by have h' : q = O5 := h; have := HOO5.out; omega) (by rw [World.size_alloc]; omega))
        have H28 : Hid (IprAt w27 O1 V x ∧ IprAt w27 O2 V y ∧ PfxAt w27 O3 pp ∧ PfxAt w27 O4 qq ∧ MacAt w27 O5 u ∧ Below w.heap.size w w27) := ⟨H26.out.1.below bN, H26.out.2.1.below bN, H26.out.2.2.1.below bN, H26.out.2.2.2.1.below bN, hRE, H26.out.2.2.2.2.trans (bN.mono H26.out.2.2.2.2.size)⟩
        clear hRE kE bN
        go_wp2_with (refine wpList_load_mac (.tmp 17) rfl O5 u rfl H28.out.2.2.2.2.1 rfl ?_)
        refine (printMac_any u w27 HU.out).mono ?_
        rintro e w29 ⟨rfl, hb⟩
        have H30 : Hid (IprAt w29 O1 V x ∧ IprAt w29 O2 V y ∧ PfxAt w29 O3 pp ∧ PfxAt w29 O4 qq ∧ MacAt w29 O5 u ∧ Below w.heap.size w w29) := ⟨H28.out.1.below hb, H28.out.2.1.below hb, H28.out.2.2.1.below hb, H28.out.2.2.2.1.below hb, H28.out.2.2.2.2.1.below hb, H28.out.2.2.2.2.2.trans (hb.mono H28.out.2.2.2.2.2.size)⟩
        clear hb
        go_wp2_with fail
        refine (parseMac_any (txB (prM u 6)) w29).mono ?_
        rintro e w31 ⟨rfl, hb⟩
        have H32 : Hid (IprAt w31 O1 V x ∧ IprAt w31 O2 V y ∧ PfxAt w31 O3 pp ∧ PfxAt w31 O4 qq ∧ MacAt w31 O5 u ∧ Below w.heap.size w w31) := ⟨H30.out.1.below hb, H30.out.2.1.below hb, H30.out.2.2.1.below hb, H30.out.2.2.2.1.below hb, H30.out.2.2.2.2.1.below hb, H30.out.2.2.2.2.2.trans (hb.mono H30.out.2.2.2.2.2.size)⟩
        clear hb
        obtain ⟨y6, hu, hux⟩ := mac_back HU.out
        have HMB : Hid (same6 y6 u = true) := by
          show _ = _
          unfold same6
          rw [decide_eq_true_iff]
          exact ⟨hux 0 (by omega), hux 1 (by omega), hux 2 (by omega), hux 3 (by omega), hux 4 (by omega), hux 5 (by omega)⟩
        rw [hu]
        show _
        simp only [mcO]
        clear hu hux
        obtain ⟨O6, hO⟩ : ∃ O_, O_ = w31.heap.size := ⟨_, rfl⟩
        have HOO6 : Hid (w31.heap.size = O6) := hO.symm
        clear hO
        go_wp2_with (refine wpList_store_mac (.tmp 19) (.tmp 139) rfl rfl w31.heap.size mz y6 rfl rfl (mac_new w31 mz) rfl ?_)
        intro w33 hRE kE
        rw [HOO6.out] at hRE kE ⊢
        have bN : Below w31.heap.size w31 w33 := ((Below.refl _ _).alloc (Nat.le_refl _) _).trans (kE.below (fun q h => by have h' : q = O6 := h; have := HOO6.out; omega) (by rw [World.size_alloc]; omega))
        have H34 : Hid (IprAt w33 O1 V x ∧ IprAt w33 O2 V y ∧ PfxAt w33 O3 pp ∧ PfxAt w33 O4 qq ∧ MacAt w33 O5 u ∧ MacAt w33 O6 y6 ∧ Below w.heap.size w w33) := ⟨H32.out.1.below bN, H32.out.2.1.below bN, H32.out.2.2.1.below bN, H32.out.2.2.2.1.below bN, H32.out.2.2.2.2.1.below bN, hRE, H32.out.2.2.2.2.2.trans (bN.mono H32.out.2.2.2.2.2.size)⟩
        clear hRE kE bN
        go_wp2_with fail
        refine (started_any w33 (hTT.out.p.below H34.out.2.2.2.2.2.2) (hTT.out.s.old H34.out.2.2.2.2.2.2)).mono ?_
        rintro e w35 ⟨rfl, hb⟩
        have H36 : Hid (IprAt w35 O1 V x ∧ IprAt w35 O2 V y ∧ PfxAt w35 O3 pp ∧ PfxAt w35 O4 qq ∧ MacAt w35 O5 u ∧ MacAt w35 O6 y6 ∧ Below w.heap.size w w35) := ⟨H34.out.1.below hb, H34.out.2.1.below hb, H34.out.2.2.1.below hb, H34.out.2.2.2.1.below hb, H34.out.2.2.2.2.1.below hb, H34.out.2.2.2.2.2.1.below hb, H34.out.2.2.2.2.2.2.trans (hb.mono H34.out.2.2.2.2.2.2.size)⟩
        clear hb
        go_wp2_with fail
        refine (num4_any _ w35).mono ?_
        rintro e wz ⟨rfl, rfl⟩
        go_wp2_with fail
        refine (num4_any _ w35).mono ?_
        rintro e wz ⟨rfl, rfl⟩
        go_wp2_with (first | (refine wpList_load_mac (.tmp 17) rfl O5 u rfl H36.out.2.2.2.2.1 rfl ?_) | (refine wpList_load_mac (.tmp 19) rfl O6 y6 rfl H36.out.2.2.2.2.2.1 rfl ?_) | (refine wpList_eql_mac (.tmp 159) (.tmp 160) rfl y6 u rfl rfl true HMB.out rfl ?_))
        go_wp2
        go_ret
        exact ⟨rfl, H36.out.2.2.2.2.2.2⟩
      | inr er =>
        obtain ⟨e3, p3⟩ := er
        have HU : Hid (∀ i, i < 6 → mz i < 256) := fun i _ => by show 0 < 256; decide
        obtain ⟨b3, hb3⟩ : ∃ b3, (((e3 : Nat) : Int) == 0) = b3 := ⟨_, rfl⟩
        have q6 := hb3
        show _
        simp only [mcO]
        clear hp3 hb3
        obtain ⟨O5, hO⟩ : ∃ O_, O_ = w25.heap.size := ⟨_, rfl⟩
        have HOO5 : Hid (w25.heap.size = O5) := hO.symm
        clear hO
        go_wp2_with (refine wpList_store_mac (.tmp 17) (.tmp 132) rfl rfl w25.heap.size mz mz rfl rfl (mac_new w25 mz) rfl ?_)
        intro w27 hRE kE
        rw [HOO5.out] at hRE kE ⊢
        have bN : Below w25.heap.size w25 w27 := ((Below.refl _ _).alloc (Nat.le_refl _) _).trans (kE.below (fun q h => by have h' : q = O5 := h; have := HOO5.out; omega) (by rw [World.size_alloc]; omega))
        have H28 : Hid (IprAt w27 O1 V x ∧ IprAt w27 O2 V y ∧ PfxAt w27 O3 pp ∧ PfxAt w27 O4 qq ∧ MacAt w27 O5 mz ∧ Below w.heap.size w w27) := ⟨H26.out.1.below bN, H26.out.2.1.below bN, H26.out.2.2.1.below bN, H26.out.2.2.2.1.below bN, hRE, H26.out.2.2.2.2.trans (bN.mono H26.out.2.2.2.2.size)⟩
        clear hRE kE bN
        go_wp2_with (refine wpList_load_mac (.tmp 17) rfl O5 mz rfl H28.out.2.2.2.2.1 rfl ?_)
        refine (printMac_any mz w27 HU.out).mono ?_
        rintro e w29 ⟨rfl, hb⟩
        have H30 : Hid (IprAt w29 O1 V x ∧ IprAt w29 O2 V y ∧ PfxAt w29 O3 pp ∧ PfxAt w29 O4 qq ∧ MacAt w29 O5 mz ∧ Below w.heap.size w w29) := ⟨H28.out.1.below hb, H28.out.2.1.below hb, H28.out.2.2.1.below hb, H28.out.2.2.2.1.below hb, H28.out.2.2.2.2.1.below hb, H28.out.2.2.2.2.2.trans (hb.mono H28.out.2.2.2.2.2.size)⟩
        clear hb
        go_wp2_with fail
        refine (parseMac_any (txB (prM mz 6)) w29).mono ?_
        rintro e w31 ⟨rfl, hb⟩
        have H32 : Hid (IprAt w31 O1 V x ∧ IprAt w31 O2 V y ∧ PfxAt w31 O3 pp ∧ PfxAt w31 O4 qq ∧ MacAt w31 O5 mz ∧ Below w.heap.size w w31) := ⟨H30.out.1.below hb, H30.out.2.1.below hb, H30.out.2.2.1.below hb, H30.out.2.2.2.1.below hb, H30.out.2.2.2.2.1.below hb, H30.out.2.2.2.2.2.trans (hb.mono H30.out.2.2.2.2.2.size)⟩
        clear hb
        obtain ⟨y6, hu, hux⟩ := mac_back HU.out
        have HMB : Hid (same6 y6 mz = true) := by
          show _ = _
          unfold same6
          rw [decide_eq_true_iff]
          exact ⟨hux 0 (by omega), hux 1 (by omega), hux 2 (by omega), hux 3 (by omega), hux 4 (by omega), hux 5 (by omega)⟩
        rw [hu]
        show _
        simp only [mcO]
        clear hu hux
        obtain ⟨O6, hO⟩ : ∃ O_, O_ = w31.heap.size := ⟨_, rfl⟩
        have HOO6 : Hid (w31.heap.size = O6) := hO.symm
        clear hO
        go_wp2_with (refine wpList_store_mac (.tmp 19) (.tmp 139) rfl rfl w31.heap.size mz y6 rfl rfl (mac_new w31 mz) rfl ?_)
        intro w33 hRE kE
        rw [HOO6.out] at hRE kE ⊢
        have bN : Below w31.heap.size w31 w33 := ((Below.refl _ _).alloc (Nat.le_refl _) _).trans (kE.below (fun q h => by have h' : q = O6 := h; have := HOO6.out; omega) (by rw [World.size_alloc]; omega))
        have H34 : Hid (IprAt w33 O1 V x ∧ IprAt w33 O2 V y ∧ PfxAt w33 O3 pp ∧ PfxAt w33 O4 qq ∧ MacAt w33 O5 mz ∧ MacAt w33 O6 y6 ∧ Below w.heap.size w w33) := ⟨H32.out.1.below bN, H32.out.2.1.below bN, H32.out.2.2.1.below bN, H32.out.2.2.2.1.below bN, H32.out.2.2.2.2.1.below bN, hRE, H32.out.2.2.2.2.2.trans (bN.mono H32.out.2.2.2.2.2.size)⟩
        clear hRE kE bN
        go_wp2_with fail
        refine (started_any w33 (hTT.out.p.below H34.out.2.2.2.2.2.2) (hTT.out.s.old H34.out.2.2.2.2.2.2)).mono ?_
        rintro e w35 ⟨rfl, hb⟩
        have H36 : Hid (IprAt w35 O1 V x ∧ IprAt w35 O2 V y ∧ PfxAt w35 O3 pp ∧ PfxAt w35 O4 qq ∧ MacAt w35 O5 mz ∧ MacAt w35 O6 y6 ∧ Below w.heap.size w w35) := ⟨H34.out.1.below hb, H34.out.2.1.below hb, H34.out.2.2.1.below hb, H34.out.2.2.2.1.below hb, H34.out.2.2.2.2.1.below hb, H34.out.2.2.2.2.2.1.below hb, H34.out.2.2.2.2.2.2.trans (hb.mono H34.out.2.2.2.2.2.2.size)⟩
        clear hb
        go_wp2_with fail
        refine (num4_any _ w35).mono ?_
        rintro e wz ⟨rfl, rfl⟩
        cases b3 with
        | true =>
          go_wp2_with fail
          refine (num4_any _ w35).mono ?_
          rintro e wz ⟨rfl, rfl⟩
          go_wp2_with (first | (refine wpList_load_mac (.tmp 17) rfl O5 mz rfl H36.out.2.2.2.2.1 rfl ?_) | (refine wpList_load_mac (.tmp 19) rfl O6 y6 rfl H36.out.2.2.2.2.2.1 rfl ?_) | (refine wpList_eql_mac (.tmp 159) (.tmp 160) rfl y6 mz rfl rfl true HMB.out rfl ?_))
          go_wp2
          go_ret
          exact ⟨rfl, H36.out.2.2.2.2.2.2⟩
        | false =>
          go_wp2_with (first | (refine wpList_load_mac (.tmp 17) rfl O5 mz rfl H36.out.2.2.2.2.1 rfl ?_) | (refine wpList_eql_mac (.tmp 148) (.tmp 149) rfl mz mz rfl rfl true (by decide) rfl ?_))
          refine (num4_any _ w35).mono ?_
          rintro e wz ⟨rfl, rfl⟩
          go_wp2_with (first | (refine wpList_load_mac (.tmp 17) rfl O5 mz rfl H36.out.2.2.2.2.1 rfl ?_) | (refine wpList_load_mac (.tmp 19) rfl O6 y6 rfl H36.out.2.2.2.2.2.1 rfl ?_) | (refine wpList_eql_mac (.tmp 159) (.tmp 160) rfl y6 mz rfl rfl true HMB.out rfl ?_))
          go_wp2
          go_ret
          exact ⟨rfl, H36.out.2.2.2.2.2.2⟩
    | inr er =>
      obtain ⟨e2, p2⟩ := er
      have hne : e2 ≠ 0 := pPF_er hp2
      have hpl : p2 ≤ s.size := pPF_pl hp2
      have q6 : (((e2 : Nat) : Int) == 0) = false := by simp [hne]
      have q7 : decide (((p2 : Nat) : Int) < 0) = false := decide_eq_false (by omega)
      have q8 : decide ((s.size : Int) < ((p2 : Nat) : Int)) = false := decide_eq_false (by have := hpl; omega)
      have q9 : ¬ ((p2 : Nat) : Int) < 0 := by omega
      have q10 : ¬ (s.size : Int) < ((p2 : Nat) : Int) := by have := hpl; omega
      show _
      simp only [pxO]
      clear hp2 hne hpl
      obtain ⟨O3, hO⟩ : ∃ O_, O_ = w13.heap.size := ⟨_, rfl⟩
      have HOO3 : Hid (w13.heap.size = O3) := hO.symm
      clear hO
      go_wp2_with (refine wpList_store_pfx (.tmp 11) (.tmp 80) rfl rfl w13.heap.size pz pz rfl rfl (pfx_new w13 pz) rfl ?_)
      intro w15 hRE kE
      rw [HOO3.out] at hRE kE ⊢
      have bN : Below w13.heap.size w13 w15 := ((Below.refl _ _).alloc (Nat.le_refl _) _).trans (kE.below (fun q h => by have h' : q = O3 := h; have := HOO3.out; omega) (by rw [World.size_alloc]; omega))
      have H16 : Hid (IprAt w15 O1 V x ∧ IprAt w15 O2 V y ∧ PfxAt w15 O3 pz ∧ Below w.heap.size w w15) := ⟨H14.out.1.below bN, H14.out.2.1.below bN, hRE, H14.out.2.2.trans (bN.mono H14.out.2.2.size)⟩
      clear hRE kE bN
      go_wp2_with fail
      refine (num4_any _ w15).mono ?_
      rintro e wz ⟨rfl, rfl⟩
      go_wp2_with (first | (refine wpList_load_pfx (.tmp 11) rfl O3 pz rfl H16.out.2.2.1 rfl ?_) | (refine wpList_neq_pfx (.tmp 116) (.tmp 117) rfl pz pz rfl rfl (by decide) rfl ?_))
      clear q6 q7 q8 q9 q10
      refine (parseMac_any s w15).mono ?_
      rintro e w17 ⟨rfl, hb⟩
      have H18 : Hid (IprAt w17 O1 V x ∧ IprAt w17 O2 V y ∧ PfxAt w17 O3 pz ∧ Below w.heap.size w w17) := ⟨H16.out.1.below hb, H16.out.2.1.below hb, H16.out.2.2.1.below hb, H16.out.2.2.2.trans (hb.mono H16.out.2.2.2.size)⟩
      clear hb
      cases hp3 : pMC s with
      | inl u =>
        have HU : Hid (∀ i, i < 6 → u i < 256) := fun i _ => pMC_lt hp3 i
        show _
        simp only [mcO]
        clear hp3
        obtain ⟨O5, hO⟩ : ∃ O_, O_ = w17.heap.size := ⟨_, rfl⟩
        have HOO5 : Hid (w17.heap.size = O5) := hO.symm
        clear hO
        go_wp2_with (refine wpList_store_mac (.tmp 17) (.tmp 132) rfl rfl w17.heap.size mz u rfl rfl (mac_new w17 mz) rfl ?_)
        intro w19 hRE kE
        rw [HOO5.out] at hRE kE ⊢
        have bN : Below w17.heap.size w17 w19 := ((Below.refl _ _).alloc (Nat.le_refl _) _).trans (kE.below (fun q h => by have h' : q = O5 := h; have := HOO5.out; omega) (by rw [World.size_alloc]; omega))
        have H20 : Hid (IprAt w19 O1 V x ∧ IprAt w19 O2 V y ∧ PfxAt w19 O3 pz ∧ MacAt w19 O5 u ∧ Below w.heap.size w w19) := ⟨H18.out.1.below bN, H18.out.2.1.below bN, H18.out.2.2.1.below bN, hRE, H18.out.2.2.2.trans (bN.mono H18.out.2.2.2.size)⟩
        clear hRE kE bN
        go_wp2_with (refine wpList_load_mac (.tmp 17) rfl O5 u rfl H20.out.2.2.2.1 rfl ?_)
        refine (printMac_any u w19 HU.out).mono ?_
        rintro e w21 ⟨rfl, hb⟩
        have H22 : Hid (IprAt w21 O1 V x ∧ IprAt w21 O2 V y ∧ PfxAt w21 O3 pz ∧ MacAt w21 O5 u ∧ Below w.heap.size w w21) := ⟨H20.out.1.below hb, H20.out.2.1.below hb, H20.out.2.2.1.below hb, H20.out.2.2.2.1.below hb, H20.out.2.2.2.2.trans (hb.mono H20.out.2.2.2.2.size)⟩
        clear hb
        go_wp2_with fail
        refine (parseMac_any (txB (prM u 6)) w21).mono ?_
        rintro e w23 ⟨rfl, hb⟩
        have H24 : Hid (IprAt w23 O1 V x ∧ IprAt w23 O2 V y ∧ PfxAt w23 O3 pz ∧ MacAt w23 O5 u ∧ Below w.heap.size w w23) := ⟨H22.out.1.below hb, H22.out.2.1.below hb, H22.out.2.2.1.below hb, H22.out.2.2.2.1.below hb, H22.out.2.2.2.2.trans (hb.mono H22.out.2.2.2.2.size)⟩
        clear hb
        obtain ⟨y6, hu, hux⟩ := mac_back HU.out
        have HMB : Hid (same6 y6 u = true) := by
          show _ = _
          unfold same6
          rw [decide_eq_true_iff]
          exact ⟨hux 0 (by omega), hux 1 (by omega), hux 2 (by omega), hux 3 (by omega), hux 4 (by omega), hux 5 (by omega)⟩
        rw [hu]
        show _
        simp only [mcO]
        clear hu hux
        obtain ⟨O6, hO⟩ : ∃ O_, O_ = w23.heap.size := ⟨_, rfl⟩
        have HOO6 : Hid (w23.heap.size = O6) := hO.symm
        clear hO
        go_wp2_with (refine wpList_store_mac (.tmp 19) (.tmp 139) rfl rfl w23.heap.size mz y6 rfl rfl (mac_new w23 mz) rfl ?_)
        intro w25 hRE kE
        rw [HOO6.out] at hRE kE ⊢
        have bN : Below w23.heap.size w23 w25 := ((Below.refl _ _).alloc (Nat.le_refl _) _).trans (kE.below (fun q h => by have h' : q = O6 := h; have := HOO6.out; omega) (by rw [World.size_alloc]; omega))
        have H26 : Hid (IprAt w25 O1 V x ∧ IprAt w25 O2 V y ∧ PfxAt w25 O3 pz ∧ MacAt w25 O5 u ∧ MacAt w25 O6 y6 ∧ Below w.heap.size w w25) := ⟨H24.out.1.below bN, H24.out.2.1.below bN, H24.out.2.2.1.below bN, H24.out.2.2.2.1.below bN, hRE, H24.out.2.2.2.2.trans (bN.mono H24.out.2.2.2.2.size)⟩
        clear hRE kE bN
        go_wp2_with fail
        refine (started_any w25 (hTT.out.p.below H26.out.2.2.2.2.2) (hTT.out.s.old H26.out.2.2.2.2.2)).mono ?_
        rintro e w27 ⟨rfl, hb⟩
        have H28 : Hid (IprAt w27 O1 V x ∧ IprAt w27 O2 V y ∧ PfxAt w27 O3 pz ∧ MacAt w27 O5 u ∧ MacAt w27 O6 y6 ∧ Below w.heap.size w w27) := ⟨H26.out.1.below hb, H26.out.2.1.below hb, H26.out.2.2.1.below hb, H26.out.2.2.2.1.below hb, H26.out.2.2.2.2.1.below hb, H26.out.2.2.2.2.2.trans (hb.mono H26.out.2.2.2.2.2.size)⟩
        clear hb
        go_wp2_with fail
        refine (num4_any _ w27).mono ?_
        rintro e wz ⟨rfl, rfl⟩
        go_wp2_with fail
        refine (num4_any _ w27).mono ?_
        rintro e wz ⟨rfl, rfl⟩
        go_wp2_with (first | (refine wpList_load_mac (.tmp 17) rfl O5 u rfl H28.out.2.2.2.1 rfl ?_) | (refine wpList_load_mac (.tmp 19) rfl O6 y6 rfl H28.out.2.2.2.2.1 rfl ?_) | (refine wpList_eql_mac (.tmp 159) (.tmp 160) rfl y6 u rfl rfl true HMB.out rfl ?_))
        go_wp2
        go_ret
        exact ⟨rfl, H28.out.2.2.2.2.2⟩
      | inr er =>
        obtain ⟨e3, p3⟩ := er
        have HU : Hid (∀ i, i < 6 → mz i < 256) := fun i _ => by show 0 < 256; decide
        obtain ⟨b3, hb3⟩ : ∃ b3, (((e3 : Nat) : Int) == 0) = b3 := ⟨_, rfl⟩
        have q6 := hb3
        show _
        simp only [mcO]
        clear hp3 hb3
        obtain ⟨O5, hO⟩ : ∃ O_, O_ = w17.heap.size := ⟨_, rfl⟩
        have HOO5 : Hid (w17.heap.size = O5) := hO.symm
        clear hO
        go_wp2_with (refine wpList_store_mac (.tmp 17) (.tmp 132) rfl rfl w17.heap.size mz mz rfl rfl (mac_new w17 mz) rfl ?_)
        intro w19 hRE kE
        rw [HOO5.out] at hRE kE ⊢
        have bN : Below w17.heap.size w17 w19 := ((Below.refl _ _).alloc (Nat.le_refl _) _).trans (kE.below (fun q h => by have h' : q = O5 := h; have := HOO5.out; omega) (by rw [World.size_alloc]; omega))
        have H20 : Hid (IprAt w19 O1 V x ∧ IprAt w19 O2 V y ∧ PfxAt w19 O3 pz ∧ MacAt w19 O5 mz ∧ Below w.heap.size w w19) := ⟨H18.out.1.below bN, H18.out.2.1.below bN, H18.out.2.2.1.below bN, hRE, H18.out.2.2.2.trans (bN.mono H18.out.2.2.2.size)⟩
        clear hRE kE bN
        go_wp2_with (refine wpList_load_mac (.tmp 17) rfl O5 mz rfl H20.out.2.2.2.1 rfl ?_)
        refine (printMac_any mz w19 HU.out).mono ?_
        rintro e w21 ⟨rfl, hb⟩
        have H22 : Hid (IprAt w21 O1 V x ∧ IprAt w21 O2 V y ∧ PfxAt w21 O3 pz ∧ MacAt w21 O5 mz ∧ Below w.heap.size w w21) := ⟨H20.out.1.below hb, H20.out.2.1.below hb, H20.out.2.2.1.below hb, H20.out.2.2.2.1.below hb, H20.out.2.2.2.2.trans (hb.mono H20.out.2.2.2.2.size)⟩
        clear hb
        go_wp2_with fail
        refine (parseMac_any (txB (prM mz 6)) w21).mono ?_
        rintro e w23 ⟨rfl, hb⟩
        have H24 : Hid (IprAt w23 O1 V x ∧ IprAt w23 O2 V y ∧ PfxAt w23 O3 pz ∧ MacAt w23 O5 mz ∧ Below w.heap.size w w23) := ⟨H22.out.1.below hb, H22.out.2.1.below hb, H22.out.2.2.1.below hb, H22.out.2.2.2.1.below hb, H22.out.2.2.2.2.trans (hb.mono H22.out.2.2.2.2.size)⟩
        clear hb
        obtain ⟨y6, hu, hux⟩ := mac_back HU.out
        have HMB : Hid (same6 y6 mz = true) := by
          show _ = _
          unfold same6
          rw [decide_eq_true_iff]
          exact ⟨hux 0 (by omega), hux 1 (by omega), hux 2 (by omega), hux 3 (by omega), hux 4 (by omega), hux 5 (by omega)⟩
        rw [hu]
        show _
        simp only [mcO]
        clear hu hux
        obtain ⟨O6, hO⟩ : ∃ O_, O_ = w23.heap.size := ⟨_, rfl⟩
        have HOO6 : Hid (w23.heap.size = O6) := hO.symm
        clear hO
        go_wp2_with (refine wpList_store_mac (.tmp 19) (.tmp 139) rfl rfl w23.heap.size mz y6 rfl rfl (mac_new w23 mz) rfl ?_)
        intro w25 hRE kE
        rw [HOO6.out] at hRE kE ⊢
        have bN : Below w23.heap.size w23 w25 := ((Below.refl _ _).alloc (Nat.le_refl _) _).trans (kE.below (fun q h => by have h' : q = O6 := h; have := HOO6.out; omega) (by rw [World.size_alloc]; omega))
        have H26 : Hid (IprAt w25 O1 V x ∧ IprAt w25 O2 V y ∧ PfxAt w25 O3 pz ∧ MacAt w25 O5 mz ∧ MacAt w25 O6 y6 ∧ Below w.heap.size w w25) := ⟨H24.out.1.below bN, H24.out.2.1.below bN, H24.out.2.2.1.below bN, H24.out.2.2.2.1.below bN, hRE, H24.out.2.2.2.2.trans (bN.mono H24.out.2.2.2.2.size)⟩
        clear hRE kE bN
        go_wp2_with fail
        refine (started_any w25 (hTT.out.p.below H26.out.2.2.2.2.2) (hTT.out.s.old H26.out.2.2.2.2.2)).mono ?_
        rintro e w27 ⟨rfl, hb⟩
        have H28 : Hid (IprAt w27 O1 V x ∧ IprAt w27 O2 V y ∧ PfxAt w27 O3 pz ∧ MacAt w27 O5 mz ∧ MacAt w27 O6 y6 ∧ Below w.heap.size w w27) := ⟨H26.out.1.below hb, H26.out.2.1.below hb, H26.out.2.2.1.below hb, H26.out.2.2.2.1.below hb, H26.out.2.2.2.2.1.below hb, H26.out.2.2.2.2.2.trans (hb.mono H26.out.2.2.2.2.2.size)⟩
        clear hb
        go_wp2_with fail
        refine (num4_any _ w27).mono ?_
        rintro e wz ⟨rfl, rfl⟩
        cases b3 with
        | true =>
          go_wp2_with fail
          refine (num4_any _ w27).mono ?_
          rintro e wz ⟨rfl, rfl⟩
          go_wp2_with (first | (refine wpList_load_mac (.tmp 17) rfl O5 mz rfl H28.out.2.2.2.1 rfl ?_) | (refine wpList_load_mac (.tmp 19) rfl O6 y6 rfl H28.out.2.2.2.2.1 rfl ?_) | (refine wpList_eql_mac (.tmp 159) (.tmp 160) rfl y6 mz rfl rfl true HMB.out rfl ?_))
          go_wp2
          go_ret
          exact ⟨rfl, H28.out.2.2.2.2.2⟩
        | false =>
          go_wp2_with (first | (refine wpList_load_mac (.tmp 17) rfl O5 mz rfl H28.out.2.2.2.1 rfl ?_) | (refine wpList_eql_mac (.tmp 148) (.tmp 149) rfl mz mz rfl rfl true (by decide) rfl ?_))
          refine (num4_any _ w27).mono ?_
          rintro e wz ⟨rfl, rfl⟩
          go_wp2_with (first | (refine wpList_load_mac (.tmp 17) rfl O5 mz rfl H28.out.2.2.2.1 rfl ?_) | (refine wpList_load_mac (.tmp 19) rfl O6 y6 rfl H28.out.2.2.2.2.1 rfl ?_) | (refine wpList_eql_mac (.tmp 159) (.tmp 160) rfl y6 mz rfl rfl true HMB.out rfl ?_))
          go_wp2
          go_ret
          exact ⟨rfl, H28.out.2.2.2.2.2⟩
  | inr er =>
    obtain ⟨e1, p1⟩ := er
    have hne : e1 ≠ 0 := pIP_er hp1
    have hpl : p1 ≤ s.size := pIP_pl hp1
    have q6 : (((e1 : Nat) : Int) == 0) = false := by simp [hne]
    have q7 : decide (((p1 : Nat) : Int) < 0) = false := decide_eq_false (by omega)
    have q8 : decide ((s.size : Int) < ((p1 : Nat) : Int)) = false := decide_eq_false (by have := hpl; omega)
    have q9 : ¬ ((p1 : Nat) : Int) < 0 := by omega
    have q10 : ¬ (s.size : Int) < ((p1 : Nat) : Int) := by have := hpl; omega
    show _
    simp only [ipO]
    clear hp1 hne hpl
    obtain ⟨O1, hO⟩ : ∃ O_, O_ = w1.heap.size := ⟨_, rfl⟩
    have HOO1 : Hid (w1.heap.size = O1) := hO.symm
    clear hO
    go_wp2_with (refine wpList_store_ipr (.tmp 3) (.tmp 25) rfl rfl w1.heap.size 0 (fun _ => 0) 0 (fun _ => 0) rfl rfl (ipr_new w1 0 (fun _ => 0)) rfl ?_)
    intro w3 hRE kE
    rw [HOO1.out] at hRE kE ⊢
    have bN : Below w1.heap.size w1 w3 := ((Below.refl _ _).alloc (Nat.le_refl _) _).trans (kE.below (fun q h => by have h' : q = O1 := h; have := HOO1.out; omega) (by rw [World.size_alloc]; omega))
    have H4 : Hid (IprAt w3 O1 0 (fun _ => 0) ∧ Below w.heap.size w w3) := ⟨hRE, H2.out.trans (bN.mono H2.out.size)⟩
    clear hRE kE bN
    go_wp2_with fail
    refine (num4_any _ w3).mono ?_
    rintro e wz ⟨rfl, rfl⟩
    go_wp2_with (first | (refine wpList_load_ipr (.tmp 3) rfl O1 0 (fun _ => 0) rfl H4.out.1 rfl ?_) | (refine wpList_neq_ipb (.tmp 64) (.tmp 65) rfl 0 0 (fun _ => 0) (fun _ => 0) rfl rfl (by decide) rfl ?_))
    clear q6 q7 q8 q9 q10
    refine (parsePfx_any s w3).mono ?_
    rintro e w5 ⟨rfl, hb⟩
    have H6 : Hid (IprAt w5 O1 0 (fun _ => 0) ∧ Below w.heap.size w w5) := ⟨H4.out.1.below hb, H4.out.2.trans (hb.mono H4.out.2.size)⟩
    clear hb
    cases hp2 : pPF s with
    | inl pp =>
      have HVP : Hid (vpE pp = 0 ∧ ∀ i, i < 16 → pp.x i < 256) := ⟨(pPF_ok hp2).1, fun i _ => (pPF_ok hp2).2 i⟩
      show _
      simp only [pxO]
      clear hp2
      obtain ⟨O3, hO⟩ : ∃ O_, O_ = w5.heap.size := ⟨_, rfl⟩
      have HOO3 : Hid (w5.heap.size = O3) := hO.symm
      clear hO
      go_wp2_with (refine wpList_store_pfx (.tmp 11) (.tmp 80) rfl rfl w5.heap.size pz pp rfl rfl (pfx_new w5 pz) rfl ?_)
      intro w7 hRE kE
      rw [HOO3.out] at hRE kE ⊢
      have bN : Below w5.heap.size w5 w7 := ((Below.refl _ _).alloc (Nat.le_refl _) _).trans (kE.below (fun q h => by have h' : q = O3 := h; have := HOO3.out; omega) (by rw [World.size_alloc]; omega))
      have H8 : Hid (IprAt w7 O1 0 (fun _ => 0) ∧ PfxAt w7 O3 pp ∧ Below w.heap.size w w7) := ⟨H6.out.1.below bN, hRE, H6.out.2.trans (bN.mono H6.out.2.size)⟩
      clear hRE kE bN
      go_wp2_with fail
      refine (num4_any _ w7).mono ?_
      rintro e wz ⟨rfl, rfl⟩
      go_wp2_with (refine wpList_load_pfx (.tmp 11) rfl O3 pp rfl H8.out.2.1 rfl ?_)
      refine (printPfx_any pp w7 HVP.out.2 (hTT.out.below H8.out.2.2)).mono ?_
      rintro e w9 ⟨rfl, hb⟩
      have H10 : Hid (IprAt w9 O1 0 (fun _ => 0) ∧ PfxAt w9 O3 pp ∧ Below w.heap.size w w9) := ⟨H8.out.1.below hb, H8.out.2.1.below hb, H8.out.2.2.trans (hb.mono H8.out.2.2.size)⟩
      clear hb
      rw [pfO_yes HVP.out.1]
      obtain ⟨z, hz, hzx⟩ := pf_back HVP.out.1 HVP.out.2
      obtain ⟨qq, hqq⟩ : ∃ qq : PV, qq = ⟨pp.V, z, pp.n⟩ := ⟨_, rfl⟩
      have HPF : Hid (pPF (txB (prPF pp)) = .inl qq ∧ ((pp.V == qq.V && same16 pp.x qq.x) && pp.n == qq.n) = true) := ⟨by rw [hqq]; exact hz, by rw [hqq]; simp only [beq_self_eq_true, Bool.true_and, Bool.and_true]; exact (same16_iff pp.x z).2 (fun i hi => (hzx i hi).symm)⟩
      clear hz hzx hqq
      go_wp2_with fail
      refine (parsePfx_any (txB (prPF pp)) w9).mono ?_
      rintro e w11 ⟨rfl, hb⟩
      have H12 : Hid (IprAt w11 O1 0 (fun _ => 0) ∧ PfxAt w11 O3 pp ∧ Below w.heap.size w w11) := ⟨H10.out.1.below hb, H10.out.2.1.below hb, H10.out.2.2.trans (hb.mono H10.out.2.2.size)⟩
      clear hb
      rw [HPF.out.1]
      show _
      simp only [pxO]
      obtain ⟨O4, hO⟩ : ∃ O_, O_ = w11.heap.size := ⟨_, rfl⟩
      have HOO4 : Hid (w11.heap.size = O4) := hO.symm
      clear hO
      go_wp2_with (refine wpList_store_pfx (.tmp 14) (.tmp 94) rfl rfl w11.heap.size pz qq rfl rfl (pfx_new w11 pz) rfl ?_)
      intro w13 hRE kE
      rw [HOO4.out] at hRE kE ⊢
      have bN : Below w11.heap.size w11 w13 := ((Below.refl _ _).alloc (Nat.le_refl _) _).trans (kE.below (fun q h => by have h' : q = O4 := h; have := HOO4.out; omega) (by rw [World.size_alloc]; omega))
      have H14 : Hid (IprAt w13 O1 0 (fun _ => 0) ∧ PfxAt w13 O3 pp ∧ PfxAt w13 O4 qq ∧ Below w.heap.size w w13) := ⟨H12.out.1.below bN, H12.out.2.1.below bN, hRE, H12.out.2.2.trans (bN.mono H12.out.2.2.size)⟩
      clear hRE kE bN
      go_wp2_with fail
      refine (num4_any _ w13).mono ?_
      rintro e wz ⟨rfl, rfl⟩
      go_wp2_with fail
      refine (num4_any _ w13).mono ?_
      rintro e wz ⟨rfl, rfl⟩
      go_wp2_with (first | (refine wpList_load_pfx (.tmp 11) rfl O3 pp rfl H14.out.2.1 rfl ?_) | (refine wpList_load_pfx (.tmp 14) rfl O4 qq rfl H14.out.2.2.1 rfl ?_) | (refine wpList_neq_pfx (.tmp 106) (.tmp 107) rfl pp qq rfl rfl HPF.out.2 rfl ?_))
      refine (vpref_any pp w13 HVP.out.2).mono ?_
      rintro e w15 ⟨rfl, hb⟩
      have H16 : Hid (IprAt w15 O1 0 (fun _ => 0) ∧ PfxAt w15 O3 pp ∧ PfxAt w15 O4 qq ∧ Below w.heap.size w w15) := ⟨H14.out.1.below hb, H14.out.2.1.below hb, H14.out.2.2.1.below hb, H14.out.2.2.2.trans (hb.mono H14.out.2.2.2.size)⟩
      clear hb
      rw [HVP.out.1]
      go_wp2_with fail
      refine (num4_any _ w15).mono ?_
      rintro e wz ⟨rfl, rfl⟩
      go_wp2_with fail
      refine (parseMac_any s w15).mono ?_
      rintro e w17 ⟨rfl, hb⟩
      have H18 : Hid (IprAt w17 O1 0 (fun _ => 0) ∧ PfxAt w17 O3 pp ∧ PfxAt w17 O4 qq ∧ Below w.heap.size w w17) := ⟨H16.out.1.below hb, H16.out.2.1.below hb, H16.out.2.2.1.below hb, H16.out.2.2.2.trans (hb.mono H16.out.2.2.2.size)⟩
      clear hb
      cases hp3 : pMC s with
      | inl u =>
        have HU : Hid (∀ i, i < 6 → u i < 256) := fun i _ => pMC_lt hp3 i
        show _
        simp only [mcO]
        clear hp3
        obtain ⟨O5, hO⟩ : ∃ O_, O_ = w17.heap.size := ⟨_, rfl⟩
        have HOO5 : Hid (w17.heap.size = O5) := hO.symm
        clear hO
        go_wp2_with (refine wpList_store_mac (.tmp 17) (.tmp 132) rfl rfl w17.heap.size mz u rfl rfl (mac_new w17 mz) rfl ?_)
        intro w19 hRE kE
        rw [HOO5.out] at hRE kE ⊢
        have bN : Below w17.heap.size w17 w19 := ((Below.refl _ _).alloc (Nat.le_refl _) _).trans (kE.below (fun q h => by have h' : q = O5 := h; have := HOO5.out; omega) (by rw [World.size_alloc]; omega))
        have H20 : Hid (IprAt w19 O1 0 (fun _ => 0) ∧ PfxAt w19 O3 pp ∧ PfxAt w19 O4 qq ∧ MacAt w19 O5 u ∧ Below w.heap.size w w19) := ⟨H18.out.1.below bN, H18.out.2.1.below bN, H18.out.2.2.1.below bN, hRE, H18.out.2.2.2.trans (bN.mono H18.out.2.2.2.size)⟩
        clear hRE kE bN
        go_wp2_with (refine wpList_load_mac (.tmp 17) rfl O5 u rfl H20.out.2.2.2.1 rfl ?_)
        refine (printMac_any u w19 HU.out).mono ?_
        rintro e w21 ⟨rfl, hb⟩
        have H22 : Hid (IprAt w21 O1 0 (fun _ => 0) ∧ PfxAt w21 O3 pp ∧ PfxAt w21 O4 qq ∧ MacAt w21 O5 u ∧ Below w.heap.size w w21) := ⟨H20.out.1.below hb, H20.out.2.1.below hb, H20.out.2.2.1.below hb, H20.out.2.2.2.1.below hb, H20.out.2.2.2.2.trans (hb.mono H20.out.2.2.2.2.size)⟩
        clear hb
        go_wp2_with fail
        refine (parseMac_any (txB (prM u 6)) w21).mono ?_
        rintro e w23 ⟨rfl, hb⟩
        have H24 : Hid (IprAt w23 O1 0 (fun _ => 0) ∧ PfxAt w23 O3 pp ∧ PfxAt w23 O4 qq ∧ MacAt w23 O5 u ∧ Below w.heap.size w w23) := ⟨H22.out.1.below hb, H22.out.2.1.below hb, H22.out.2.2.1.below hb, H22.out.2.2.2.1.below hb, H22.out.2.2.2.2.trans (hb.mono H22.out.2.2.2.2.size)⟩
        clear hb
        obtain ⟨y6, hu, hux⟩ := mac_back HU.out
        have HMB : Hid (same6 y6 u = true) := by
          show _ = _
          unfold same6
          rw [decide_eq_true_iff]
          exact ⟨hux 0 (by omega), hux 1 (by omega), hux 2 (by omega), hux 3 (by omega), hux 4 (by omega), hux 5 (by omega)⟩
        rw [hu]
        show _
        simp only [mcO]
        clear hu hux
        obtain ⟨O6, hO⟩ : ∃ O_, O_ = w23.heap.size := ⟨_, rfl⟩
        have HOO6 : Hid (w23.heap.size = O6) := hO.symm
        clear hO
        go_wp2_with (refine wpList_store_mac (.tmp 19) (.tmp 139) rfl rfl w23.heap.size mz y6 rfl rfl (mac_new w23 mz) rfl ?_)
        intro w25 hRE kE
        rw [HOO6.out] at hRE kE ⊢
        have bN : Below w23.heap.size w23 w25 := ((Below.refl _ _).alloc (Nat.le_refl _) _).trans (kE.below (fun q h => by have h' : q = O6 := h; have := HOO6.out; omega) (by rw [World.size_alloc]; omega))
        have H26 : Hid (IprAt w25 O1 0 (fun _ => 0) ∧ PfxAt w25 O3 pp ∧ PfxAt w25 O4 qq ∧ MacAt w25 O5 u ∧ MacAt w25 O6 y6 ∧ Below w.heap.size w w25) := ⟨H24.out.1.below bN, H24.out.2.1.below bN, H24.out.2.2.1.below bN, H24.out.2.2.2.1.below bN, hRE, H24.out.2.2.2.2.trans (bN.mono H24.out.2.2.2.2.size)⟩
        clear hRE kE bN
        go_wp2_with fail
        refine (started_any w25 (hTT.out.p.below H26.out.2.2.2.2.2) (hTT.out.s.old H26.out.2.2.2.2.2)).mono ?_
        rintro e w27 ⟨rfl, hb⟩
        have H28 : Hid (IprAt w27 O1 0 (fun _ => 0) ∧ PfxAt w27 O3 pp ∧ PfxAt w27 O4 qq ∧ MacAt w27 O5 u ∧ MacAt w27 O6 y6 ∧ Below w.heap.size w w27) := ⟨H26.out.1.below hb, H26.out.2.1.below hb, H26.out.2.2.1.below hb, H26.out.2.2.2.1.below hb, H26.out.2.2.2.2.1.below hb, H26.out.2.2.2.2.2.trans (hb.mono H26.out.2.2.2.2.2.size)⟩
        clear hb
        go_wp2_with fail
        refine (num4_any _ w27).mono ?_
        rintro e wz ⟨rfl, rfl⟩
        go_wp2_with fail
        refine (num4_any _ w27).mono ?_
        rintro e wz ⟨rfl, rfl⟩
        go_wp2_with (first | (refine wpList_load_mac (.tmp 17) rfl O5 u rfl H28.out.2.2.2.1 rfl ?_) | (refine wpList_load_mac (.tmp 19) rfl O6 y6 rfl H28.out.2.2.2.2.1 rfl ?_) | (refine wpList_eql_mac (.tmp 159) (.tmp 160) rfl y6 u rfl rfl true HMB.out rfl ?_))
        go_wp2
        go_ret
        exact ⟨rfl, H28.out.2.2.2.2.2⟩
      | inr er =>
        obtain ⟨e3, p3⟩ := er
        have HU : Hid (∀ i, i < 6 → mz i < 256) := fun i _ => by show 0 < 256; decide
        obtain ⟨b3, hb3⟩ : ∃ b3, (((e3 : Nat) : Int) == 0) = b3 := ⟨_, rfl⟩
        have q6 := hb3
        show _
        simp only [mcO]
        clear hp3 hb3
        obtain ⟨O5, hO⟩ : ∃ O_, O_ = w17.heap.size := ⟨_, rfl⟩
        have HOO5 : Hid (w17.heap.size = O5) := hO.symm
        clear hO
        go_wp2_with (refine wpList_store_mac (.tmp 17) (.tmp 132) rfl rfl w17.heap.size mz mz rfl rfl (mac_new w17 mz) rfl ?_)
        intro w19 hRE kE
        rw [HOO5.out] at hRE kE ⊢
        have bN : Below w17.heap.size w17 w19 := ((Below.refl _ _).alloc (Nat.le_refl _) _).trans (kE.below (fun q h => by have h' : q = O5 := h; have := HOO5.out; omega) (by rw [World.size_alloc]; omega))
        have H20 : Hid (IprAt w19 O1 0 (fun _ => 0) ∧ PfxAt w19 O3 pp ∧ PfxAt w19 O4 qq ∧ MacAt w19 O5 mz ∧ Below w.heap.size w w19) := ⟨H18.out.1.below bN, H18.out.2.1.below bN, H18.out.2.2.1.below bN, hRE, H18.out.2.2.2.trans (bN.mono H18.out.2.2.2.size)⟩
        clear hRE kE bN
        go_wp2_with (refine wpList_load_mac (.tmp 17) rfl O5 mz rfl H20.out.2.2.2.1 rfl ?_)
        refine (printMac_any mz w19 HU.out).mono ?_
        rintro e w21 ⟨rfl, hb⟩
        have H22 : Hid (IprAt w21 O1 0 (fun _ => 0) ∧ PfxAt w21 O3 pp ∧ PfxAt w21 O4 qq ∧ MacAt w21 O5 mz ∧ Below w.heap.size w w21) := ⟨H20.out.1.below hb, H20.out.2.1.below hb, H20.out.2.2.1.below hb, H20.out.2.2.2.1.below hb, H20.out.2.2.2.2.trans (hb.mono H20.out.2.2.2.2.size)⟩
        clear hb
        go_wp2_with fail
        refine (parseMac_any (txB (prM mz 6)) w21).mono ?_
        rintro e w23 ⟨rfl, hb⟩
        have H24 : Hid (IprAt w23 O1 0 (fun _ => 0) ∧ PfxAt w23 O3 pp ∧ PfxAt w23 O4 qq ∧ MacAt w23 O5 mz ∧ Below w.heap.size w w23) := ⟨H22.out.1.below hb, H22.out.2.1.below hb, H22.out.2.2.1.below hb, H22.out.2.2.2.1.below hb, H22.out.2.2.2.2.trans (hb.mono H22.out.2.2.2.2.size)⟩
        clear hb
        obtain ⟨y6, hu, hux⟩ := mac_back HU.out
        have HMB : Hid (same6 y6 mz = true) := by
          show _ = _
          unfold same6
          rw [decide_eq_true_iff]
          exact ⟨hux 0 (by omega), hux 1 (by omega), hux 2 (by omega), hux 3 (by omega), hux 4 (by omega), hux 5 (by omega)⟩
        rw [hu]
        show _
        simp only [mcO]
        clear hu hux
        obtain ⟨O6, hO⟩ : ∃ O_, O_ = w23.heap.size := ⟨_, rfl⟩
        have HOO6 : Hid (w23.heap.size = O6) := hO.symm
        clear hO
        go_wp2_with (refine wpList_store_mac (.tmp 19) (.tmp 139) rfl rfl w23.heap.size mz y6 rfl rfl (mac_new w23 mz) rfl ?_)
        intro w25 hRE kE
        rw [HOO6.out] at hRE kE ⊢
        have bN : Below w23.heap.size w23 w25 := ((Below.refl _ _).alloc (Nat.le_refl _) _).trans (kE.below (fun q h => by have h' : q = O6 := h; have := HOO6.out; omega) (by rw [World.size_alloc]; omega))
        have H26 : Hid (IprAt w25 O1 0 (fun _ => 0) ∧ PfxAt w25 O3 pp ∧ PfxAt w25 O4 qq ∧ MacAt w25 O5 mz ∧ MacAt w25 O6 y6 ∧ Below w.heap.size w w25) := ⟨H24.out.1.below bN, H24.out.2.1.below bN, H24.out.2.2.1.below bN, H24.out.2.2.2.1.below bN, hRE, H24.out.2.2.2.2.trans (bN.mono H24.out.2.2.2.2.size)⟩
        clear hRE kE bN
        go_wp2_with fail
        refine (started_any w25 (hTT.out.p.below H26.out.2.2.2.2.2) (hTT.out.s.old H26.out.2.2.2.2.2)).mono ?_
        rintro e w27 ⟨rfl, hb⟩
        have H28 : Hid (IprAt w27 O1 0 (fun _ => 0) ∧ PfxAt w27 O3 pp ∧ PfxAt w27 O4 qq ∧ MacAt w27 O5 mz ∧ MacAt w27 O6 y6 ∧ Below w.heap.size w w27) := ⟨H26.out.1.below hb, H26.out.2.1.below hb, H26.out.2.2.1.below hb, H26.out.2.2.2.1.below hb, H26.out.2.2.2.2.1.below hb, H26.out.2.2.2.2.2.trans (hb.mono H26.out.2.2.2.2.2.size)⟩
        clear hb
        go_wp2_with fail
        refine (num4_any _ w27).mono ?_
        rintro e wz ⟨rfl, rfl⟩
        cases b3 with
        | true =>
          go_wp2_with fail
          refine (num4_any _ w27).mono ?_
          rintro e wz ⟨rfl, rfl⟩
          go_wp2_with (first | (refine wpList_load_mac (.tmp 17) rfl O5 mz rfl H28.out.2.2.2.1 rfl ?_) | (refine wpList_load_mac (.tmp 19) rfl O6 y6 rfl H28.out.2.2.2.2.1 rfl ?_) | (refine wpList_eql_mac (.tmp 159) (.tmp 160) rfl y6 mz rfl rfl true HMB.out rfl ?_))
          go_wp2
          go_ret
          exact ⟨rfl, H28.out.2.2.2.2.2⟩
        | false =>
          go_wp2_with (first | (refine wpList_load_mac (.tmp 17) rfl O5 mz rfl H28.out.2.2.2.1 rfl ?_) | (refine wpList_eql_mac (.tmp 148) (.tmp 149) rfl mz mz rfl rfl true (by decide) rfl ?_))
          refine (num4_any _ w27).mono ?_
          rintro e wz ⟨rfl, rfl⟩
          go_wp2_with (first | (refine wpList_load_mac (.tmp 17) rfl O5 mz rfl H28.out.2.2.2.1 rfl ?_) | (refine wpList_load_mac (.tmp 19) rfl O6 y6 rfl H28.out.2.2.2.2.1 rfl ?_) | (refine wpList_eql_mac (.tmp 159) (.tmp 160) rfl y6 mz rfl rfl true HMB.out rfl ?_))
          go_wp2
          go_ret
          exact ⟨rfl, H28.out.2.2.2.2.2⟩
    | inr er =>
      obtain ⟨e2, p2⟩ := er
      have hne : e2 ≠ 0 := pPF_er hp2
      have hpl : p2 ≤ s.size := pPF_pl hp2
      have q6 : (((e2 : Nat) : Int) == 0) = false := by simp [hne]
      have q7 : decide (((p2 : Nat) : Int) < 0) = false := decide_eq_false (by omega)
      have q8 : decide ((s.size : Int) < ((p2 : Nat) : Int)) = false := decide_eq_false (by have := hpl; omega)
      have q9 : ¬ ((p2 : Nat) : Int) < 0 := by omega
      have q10 : ¬ (s.size : Int) < ((p2 : Nat) : Int) := by have := hpl; omega
      show _
      simp only [pxO]
      clear hp2 hne hpl
      obtain ⟨O3, hO⟩ : ∃ O_, O_ = w5.heap.size := ⟨_, rfl⟩
      have HOO3 : Hid (w5.heap.size = O3) := hO.symm
      clear hO
      go_wp2_with (refine wpList_store_pfx (.tmp 11) (.tmp 80) rfl rfl w5.heap.size pz pz rfl rfl (pfx_new w5 pz) rfl ?_)
      intro w7 hRE kE
      rw [HOO3.out] at hRE kE ⊢
      have bN : Below w5.heap.size w5 w7 := ((Below.refl _ _).alloc (Nat.le_refl _) _).trans (kE.below (fun q h => by have h' : q = O3 := h; have := HOO3.out; omega) (by rw [World.size_alloc]; omega))
      have H8 : Hid (IprAt w7 O1 0 (fun _ => 0) ∧ PfxAt w7 O3 pz ∧ Below w.heap.size w w7) := ⟨H6.out.1.below bN, hRE, H6.out.2.trans (bN.mono H6.out.2.size)⟩
      clear hRE kE bN
      go_wp2_with fail
      refine (num4_any _ w7).mono ?_
      rintro e wz ⟨rfl, rfl⟩
      go_wp2_with (first | (refine wpList_load_pfx (.tmp 11) rfl O3 pz rfl H8.out.2.1 rfl ?_) | (refine wpList_neq_pfx (.tmp 116) (.tmp 117) rfl pz pz rfl rfl (by decide) rfl ?_))
      clear q6 q7 q8 q9 q10
      refine (parseMac_any s w7).mono ?_
      rintro e w9 ⟨rfl, hb⟩
      have H10 : Hid (IprAt w9 O1 0 (fun _ => 0) ∧ PfxAt w9 O3 pz ∧ Below w.heap.size w w9) := ⟨H8.out.1.below hb, H8.out.2.1.below hb, H8.out.2.2.trans (hb.mono H8.out.2.2.size)⟩
      clear hb
      cases hp3 : pMC s with
      | inl u =>
        have HU : Hid (∀ i, i < 6 → u i < 256) := fun i _ => pMC_lt hp3 i
        show _
        simp only [mcO]
        clear hp3
        obtain ⟨O5, hO⟩ : ∃ O_, O_ = w9.heap.size := ⟨_, rfl⟩
        have HOO5 : Hid (w9.heap.size = O5) := hO.symm
        clear hO
        go_wp2_with (refine wpList_store_mac (.tmp 17) (.tmp 132) rfl rfl w9.heap.size mz u rfl rfl (mac_new w9 mz) rfl ?_)
        intro w11 hRE kE
        rw [HOO5.out] at hRE kE ⊢
        have bN : Below w9.heap.size w9 w11 := ((Below.refl _ _).alloc (Nat.le_refl _) _).trans (kE.below (fun q h => by have h' : q = O5 := h; have := HOO5.out; omega) (by rw [World.size_alloc]; omega))
        have H12 : Hid (IprAt w11 O1 0 (fun _ => 0) ∧ PfxAt w11 O3 pz ∧ MacAt w11 O5 u ∧ Below w.heap.size w w11) := ⟨H10.out.1.below bN, H10.out.2.1.below bN, hRE, H10.out.2.2.trans (bN.mono H10.out.2.2.size)⟩
        clear hRE kE bN
        go_wp2_with (refine wpList_load_mac (.tmp 17) rfl O5 u rfl H12.out.2.2.1 rfl ?_)
        refine (printMac_any u w11 HU.out).mono ?_
        rintro e w13 ⟨rfl, hb⟩
        have H14 : Hid (IprAt w13 O1 0 (fun _ => 0) ∧ PfxAt w13 O3 pz ∧ MacAt w13 O5 u ∧ Below w.heap.size w w13) := ⟨H12.out.1.below hb, H12.out.2.1.below hb, H12.out.2.2.1.below hb, H12.out.2.2.2.trans (hb.mono H12.out.2.2.2.size)⟩
        clear hb
        go_wp2_with fail
        refine (parseMac_any (txB (prM u 6)) w13).mono ?_
        rintro e w15 ⟨rfl, hb⟩
        have H16 : Hid (IprAt w15 O1 0 (fun _ => 0) ∧ PfxAt w15 O3 pz ∧ MacAt w15 O5 u ∧ Below w.heap.size w w15) := ⟨H14.out.1.below hb, H14.out.2.1.below hb, H14.out.2.2.1.below hb, H14.out.2.2.2.trans (hb.mono H14.out.2.2.2.size)⟩
        clear hb
        obtain ⟨y6, hu, hux⟩ := mac_back HU.out
        have HMB : Hid (same6 y6 u = true) := by
          show _ = _
          unfold same6
          rw [decide_eq_true_iff]
          exact ⟨hux 0 (by omega), hux 1 (by omega), hux 2 (by omega), hux 3 (by omega), hux 4 (by omega), hux 5 (by omega)⟩
        rw [hu]
        show _
        simp only [mcO]
        clear hu hux
        obtain ⟨O6, hO⟩ : ∃ O_, O_ = w15.heap.size := ⟨_, rfl⟩
        have HOO6 : Hid (w15.heap.size = O6) := hO.symm
        clear hO
        go_wp2_with (refine wpList_store_mac (.tmp 19) (.tmp 139) rfl rfl w15.heap.size mz y6 rfl rfl (mac_new w15 mz) rfl ?_)
        intro w17 hRE kE
        rw [HOO6.out] at hRE kE ⊢
        have bN : Below w15.heap.size w15 w17 := ((Below.refl _ _).alloc (Nat.le_refl _) _).trans (kE.below (fun q h => by have h' : q = O6 := h; have := HOO6.out; omega) (by rw [World.size_alloc]; omega))
        have H18 : Hid (IprAt w17 O1 0 (fun _ => 0) ∧ PfxAt w17 O3 pz ∧ MacAt w17 O5 u ∧ MacAt w17 O6 y6 ∧ Below w.heap.size w w17) := ⟨H16.out.1.below bN, H16.out.2.1.below bN, H16.out.2.2.1.below bN, hRE, H16.out.2.2.2.trans (bN.mono H16.out.2.2.2.size)⟩
        clear hRE kE bN
        go_wp2_with fail
        refine (started_any w17 (hTT.out.p.below H18.out.2.2.2.2) (hTT.out.s.old H18.out.2.2.2.2)).mono ?_
        rintro e w19 ⟨rfl, hb⟩
        have H20 : Hid (IprAt w19 O1 0 (fun _ => 0) ∧ PfxAt w19 O3 pz ∧ MacAt w19 O5 u ∧ MacAt w19 O6 y6 ∧ Below w.heap.size w w19) := ⟨H18.out.1.below hb, H18.out.2.1.below hb, H18.out.2.2.1.below hb, H18.out.2.2.2.1.below hb, H18.out.2.2.2.2.trans (hb.mono H18.out.2.2.2.2.size)⟩
        clear hb
        go_wp2_with fail
        refine (num4_any _ w19).mono ?_
        rintro e wz ⟨rfl, rfl⟩
        go_wp2_with fail
        refine (num4_any _ w19).mono ?_
        rintro e wz ⟨rfl, rfl⟩
        go_wp2_with (first | (refine wpList_load_mac (.tmp 17) rfl O5 u rfl H20.out.2.2.1 rfl ?_) | (refine wpList_load_mac (.tmp 19) rfl O6 y6 rfl H20.out.2.2.2.1 rfl ?_) | (refine wpList_eql_mac (.tmp 159) (.tmp 160) rfl y6 u rfl rfl true HMB.out rfl ?_))
        go_wp2
        go_ret
        exact ⟨rfl, H20.out.2.2.2.2⟩
      | inr er =>
        obtain ⟨e3, p3⟩ := er
        have HU : Hid (∀ i, i < 6 → mz i < 256) := fun i _ => by show 0 < 256; decide
        obtain ⟨b3, hb3⟩ : ∃ b3, (((e3 : Nat) : Int) == 0) = b3 := ⟨_, rfl⟩
        have q6 := hb3
        show _
        simp only [mcO]
        clear hp3 hb3
        obtain ⟨O5, hO⟩ : ∃ O_, O_ = w9.heap.size := ⟨_, rfl⟩
        have HOO5 : Hid (w9.heap.size = O5) := hO.symm
        clear hO
        go_wp2_with (refine wpList_store_mac (.tmp 17) (.tmp 132) rfl rfl w9.heap.size mz mz rfl rfl (mac_new w9 mz) rfl ?_)
        intro w11 hRE kE
        rw [HOO5.out] at hRE kE ⊢
        have bN : Below w9.heap.size w9 w11 := ((Below.refl _ _).alloc (Nat.le_refl _) _).trans (kE.below (fun q h => by have h' : q = O5 := h; have := HOO5.out; omega) (by rw [World.size_alloc]; omega))
        have H12 : Hid (IprAt w11 O1 0 (fun _ => 0) ∧ PfxAt w11 O3 pz ∧ MacAt w11 O5 mz ∧ Below w.heap.size w w11) := ⟨H10.out.1.below bN, H10.out.2.1.below bN, hRE, H10.out.2.2.trans (bN.mono H10.out.2.2.size)⟩
        clear hRE kE bN
        go_wp2_with (refine wpList_load_mac (.tmp 17) rfl O5 mz rfl H12.out.2.2.1 rfl ?_)
        refine (printMac_any mz w11 HU.out).mono ?_
        rintro e w13 ⟨rfl, hb⟩
        have H14 : Hid (IprAt w13 O1 0 (fun _ => 0) ∧ PfxAt w13 O3 pz ∧ MacAt w13 O5 mz ∧ Below w.heap.size w w13) := ⟨H12.out.1.below hb, H12.out.2.1.below hb, H12.out.2.2.1.below hb, H12.out.2.2.2.trans (hb.mono H12.out.2.2.2.size)⟩
        clear hb
        go_wp2_with fail
        refine (parseMac_any (txB (prM mz 6)) w13).mono ?_
        rintro e w15 ⟨rfl, hb⟩
        have H16 : Hid (IprAt w15 O1 0 (fun _ => 0) ∧ PfxAt w15 O3 pz ∧ MacAt w15 O5 mz ∧ Below w.heap.size w w15) := ⟨H14.out.1.below hb, H14.out.2.1.below hb, H14.out.2.2.1.below hb, H14.out.2.2.2.trans (hb.mono H14.out.2.2.2.size)⟩
        clear hb
        obtain ⟨y6, hu, hux⟩ := mac_back HU.out
        have HMB : Hid (same6 y6 mz = true) := by
          show _ = _
          unfold same6
          rw [decide_eq_true_iff]
          exact ⟨hux 0 (by omega), hux 1 (by omega), hux 2 (by omega), hux 3 (by omega), hux 4 (by omega), hux 5 (by omega)⟩
        rw [hu]
        show _
        simp only [mcO]
        clear hu hux
        obtain ⟨O6, hO⟩ : ∃ O_, O_ = w15.heap.size := ⟨_, rfl⟩
        have HOO6 : Hid (w15.heap.size = O6) := hO.symm
        clear hO
        go_wp2_with (refine wpList_store_mac (.tmp 19) (.tmp 139) rfl rfl w15.heap.size mz y6 rfl rfl (mac_new w15 mz) rfl ?_)
        intro w17 hRE kE
        rw [HOO6.out] at hRE kE ⊢
        have bN : Below w15.heap.size w15 w17 := ((Below.refl _ _).alloc (Nat.le_refl _) _).trans (kE.below (fun q h => by have h' : q = O6 := h; have := HOO6.out; omega) (by rw [World.size_alloc]; omega))
        have H18 : Hid (IprAt w17 O1 0 (fun _ => 0) ∧ PfxAt w17 O3 pz ∧ MacAt w17 O5 mz ∧ MacAt w17 O6 y6 ∧ Below w.heap.size w w17) := ⟨H16.out.1.below bN, H16.out.2.1.below bN, H16.out.2.2.1.below bN, hRE, H16.out.2.2.2.trans (bN.mono H16.out.2.2.2.size)⟩
        clear hRE kE bN
        go_wp2_with fail
        refine (started_any w17 (hTT.out.p.below H18.out.2.2.2.2) (hTT.out.s.old H18.out.2.2.2.2)).mono ?_
        rintro e w19 ⟨rfl, hb⟩
        have H20 : Hid (IprAt w19 O1 0 (fun _ => 0) ∧ PfxAt w19 O3 pz ∧ MacAt w19 O5 mz ∧ MacAt w19 O6 y6 ∧ Below w.heap.size w w19) := ⟨H18.out.1.below hb, H18.out.2.1.below hb, H18.out.2.2.1.below hb, H18.out.2.2.2.1.below hb, H18.out.2.2.2.2.trans (hb.mono H18.out.2.2.2.2.size)⟩
        clear hb
        go_wp2_with fail
        refine (num4_any _ w19).mono ?_
        rintro e wz ⟨rfl, rfl⟩
        cases b3 with
        | true =>
          go_wp2_with fail
          refine (num4_any _ w19).mono ?_
          rintro e wz ⟨rfl, rfl⟩
          go_wp2_with (first | (refine wpList_load_mac (.tmp 17) rfl O5 mz rfl H20.out.2.2.1 rfl ?_) | (refine wpList_load_mac (.tmp 19) rfl O6 y6 rfl H20.out.2.2.2.1 rfl ?_) | (refine wpList_eql_mac (.tmp 159) (.tmp 160) rfl y6 mz rfl rfl true HMB.out rfl ?_))
          go_wp2
          go_ret
          exact ⟨rfl, H20.out.2.2.2.2⟩
        | false =>
          go_wp2_with (first | (refine wpList_load_mac (.tmp 17) rfl O5 mz rfl H20.out.2.2.1 rfl ?_) | (refine wpList_eql_mac (.tmp 148) (.tmp 149) rfl mz mz rfl rfl true (by decide) rfl ?_))
          refine (num4_any _ w19).mono ?_
          rintro e wz ⟨rfl, rfl⟩
          go_wp2_with (first | (refine wpList_load_mac (.tmp 17) rfl O5 mz rfl H20.out.2.2.1 rfl ?_) | (refine wpList_load_mac (.tmp 19) rfl O6 y6 rfl H20.out.2.2.2.1 rfl ?_) | (refine wpList_eql_mac (.tmp 159) (.tmp 160) rfl y6 mz rfl rfl true HMB.out rfl ?_))
          go_wp2
          go_ret
          exact ⟨rfl, H20.out.2.2.2.2⟩
end Go.Proofs.YtfeabifjnihooaaDoor
