/-
  weirlaw4: parsed.
-/
import Derived.Test.YteldiggaooeeeaaGreatDoorC4n
import Derived.Test.YteldiggaooeeeaaGreatDoorB4x
namespace Go.Proofs.YteldiggaooeeeaaGreatDoor
open Go.RowKit Go.Maps

theorem Tryz.pfxFields : Tryz.prog.underlying 38 = some (.struct (Tryz.prog.fieldsOf 38)) := by kernel_rfl
theorem Tryz.pfxStood : Tryz.prog.stoodInHeld 38 = false := by kernel_rfl
theorem Tryz.pfxGuard : Tryz.prog.eqGuardType Tryz.prog.depth 38 = false := by kernel_rfl
theorem pfx_part0 (p : PV) (w : World) : (part 28 (pfC p) 0).run Tryz.prog w = .ok (.agg (ipCells p.V p.x)) w := by kernel_rfl
theorem pfx_part17 (p : PV) (w : World) : (part 3 (pfC p) 17).run Tryz.prog w = .ok (.int .i64 p.n) w := by kernel_rfl
set_option maxHeartbeats 1600000 in
set_option maxRecDepth 100000 in
theorem eq_pfx (p q : PV) (w : World) : (Op.equalIn 10000 38 (.agg (pfC p)) (.agg (pfC q))).run Tryz.prog w = .ok ((p.V == q.V && same16 p.x q.x) && p.n == q.n) w := by
  rw [show (10000 : Nat) = 9999 + 1 from rfl, run_equalIn_struct w 9999 38 _ _ Tryz.pfxFields Tryz.pfxStood]
  rw [show (Tryz.prog.fieldsOf 38).toList = [{ name := "IP", type := 28, offset := 0, embedded := false, tag := "", pkgPath := "", byteOffset := 0 }, { name := "Len", type := 3, offset := 17, embedded := false, tag := "", pkgPath := "", byteOffset := 24 }] from by kernel_rfl]
  have ii : (Op.equalIn 9999 3 (.int .i64 p.n) (.int .i64 q.n)).run Tryz.prog w = .ok (p.n == q.n) w := by
    rw [show (9999 : Nat) = 9998 + 1 from rfl, run_equalIn_int w 9998 3 .i64 .i64 p.n q.n Tryz.underlying3]
  have ip : (Op.equalIn 9999 28 (.agg (ipCells p.V p.x)) (.agg (ipCells q.V q.x))).run Tryz.prog w = .ok (p.V == q.V && same16 p.x q.x) w := eqIP p.V q.V p.x q.x w 9996
  cases hb : (p.V == q.V && same16 p.x q.x) with
  | true =>
    rw [hb] at ip
    cases hn : (p.n == q.n) <;> rw [hn] at ii <;> simp [Op.eqFields, Sem.run_bind, Sem.run_ite, pfx_part0, pfx_part17, ii, ip]
  | false =>
    rw [hb] at ip
    simp [Op.eqFields, Sem.run_bind, Sem.run_ite, pfx_part0, pfx_part17, ip]
theorem wpList_eql_pfx {ops : Array Oper} {rest : List Oper} {o : Oper} {a : Act} {w : World} {Q : Exit → Act → World → Prop} (X Y : Operand) (ho : o.op = .binOp .eql 38 X Y 38) (p q : PV) (hx : a.eval X = .agg (pfC p)) (hy : a.eval Y = .agg (pfC q)) (b : Bool) (hbb : ((p.V == q.V && same16 p.x q.x) && p.n == q.n) = b)
    (hw : Region.wanted o (yielded ops a.tmps) = true) (hh : wpList Tryz.prog ops Q rest (a.put o.dst (.bool b)) w) : wpList Tryz.prog ops Q (o :: rest) a w := by
  refine wpList_step fun K hK => ?_
  rw [if_pos hw]
  have hrun : (execOp a.eval o).run Tryz.prog w = .ok (.value (.bool b)) w := by
    subst hbb
    obtain ⟨dst, op, type, pos, after, guard⟩ := o
    simp only at ho
    subst ho
    simp only [execOp, Sem.run_bind, Sem.run_pure, hx, hy, run_eqGuard_agg w .eql 38 _ _ _ _ Tryz.pfxGuard, Result.andThen_ok, run_eql_struct, eq_pfx]
  unfold Oper.wp
  rw [hrun]
  exact hK _ _ hh
theorem wpList_neq_ipb {ops : Array Oper} {rest : List Oper} {o : Oper} {a : Act} {w : World} {Q : Exit → Act → World → Prop} (X Y : Operand) (ho : o.op = .binOp .neq 28 X Y 28) (V U : Int) (x y : Nat → Nat) (hx : a.eval X = .agg (ipCells V x)) (hy : a.eval Y = .agg (ipCells U y)) (hbb : (V == U && same16 x y) = true)
    (hw : Region.wanted o (yielded ops a.tmps) = true) (hh : wpList Tryz.prog ops Q rest (a.put o.dst (.bool false)) w) : wpList Tryz.prog ops Q (o :: rest) a w := by
  refine wpList_step fun K hK => ?_
  rw [if_pos hw]
  have hrun : (execOp a.eval o).run Tryz.prog w = .ok (.value (.bool false)) w := by
    obtain ⟨dst, op, type, pos, after, guard⟩ := o
    simp only at ho
    subst ho
    simp only [execOp, Sem.run_bind, Sem.run_pure, hx, hy, run_eqGuard_agg w .neq 28 _ _ _ _ Tryz.ipGuard, Result.andThen_ok, run_neq_struct, eqIP V U x y w 9997, hbb, Bool.not_true]
  unfold Oper.wp
  rw [hrun]
  exact hK _ _ hh
theorem wpList_neq_pfx {ops : Array Oper} {rest : List Oper} {o : Oper} {a : Act} {w : World} {Q : Exit → Act → World → Prop} (X Y : Operand) (ho : o.op = .binOp .neq 38 X Y 38) (p q : PV) (hx : a.eval X = .agg (pfC p)) (hy : a.eval Y = .agg (pfC q)) (hbb : ((p.V == q.V && same16 p.x q.x) && p.n == q.n) = true)
    (hw : Region.wanted o (yielded ops a.tmps) = true) (hh : wpList Tryz.prog ops Q rest (a.put o.dst (.bool false)) w) : wpList Tryz.prog ops Q (o :: rest) a w := by
  refine wpList_step fun K hK => ?_
  rw [if_pos hw]
  have hrun : (execOp a.eval o).run Tryz.prog w = .ok (.value (.bool false)) w := by
    obtain ⟨dst, op, type, pos, after, guard⟩ := o
    simp only at ho
    subst ho
    simp only [execOp, Sem.run_bind, Sem.run_pure, hx, hy, run_eqGuard_agg w .neq 38 _ _ _ _ Tryz.pfxGuard, Result.andThen_ok, run_neq_struct, eq_pfx p q w, hbb, Bool.not_true]
  unfold Oper.wp
  rw [hrun]
  exact hK _ _ hh
theorem ip_shape (s : ByteArray) : ∃ (U : Int) (y : Nat → Nat) (e p : Nat), ipO (pIP s) = .tuple #[.agg (ipCells U y), .int .i64 (e : Nat), .int .i64 (p : Nat)] := by
  cases pIP s with
  | inl a => exact ⟨a.1, a.2, 0, 0, rfl⟩
  | inr e => exact ⟨0, fun _ => 0, e.1, e.2, rfl⟩
theorem px_shape (s : ByteArray) : ∃ (q : PV) (e p : Nat), pxO (pPF s) = .tuple #[.agg (pfC q), .int .i64 (e : Nat), .int .i64 (p : Nat)] := by
  cases pPF s with
  | inl a => exact ⟨a, 0, 0, rfl⟩
  | inr e => exact ⟨pz, e.1, e.2, rfl⟩
theorem mc_shape (s : ByteArray) : ∃ (m : Nat → Nat) (e p : Nat), mcO (pMC s) = .tuple #[.agg (macC m), .int .i64 (e : Nat), .int .i64 (p : Nat)] := by
  cases pMC s with
  | inl a => exact ⟨a, 0, 0, rfl⟩
  | inr e => exact ⟨mz, e.1, e.2, rfl⟩
theorem same6_rfC (m : Nat → Nat) : same6 m m = true := by simp [same6]
set_option maxHeartbeats 4000000 in
set_option maxRecDepth 100000 in
theorem parsed_any (o : OP) (w : World) : Calls Tryz.prog 22 #[.agg (opA o)] w fun r w' => r = .returned (.bool true) ∧ Below w.heap.size w w' := by

  go_enter Tryz.func22, Tryz.ntmps22
  go_wp2_with (refine wpList_box_ophN (.tmp 0) rfl o rfl rfl ?_)
  intro B W1 HB1 hI bI
  have H1 : Hid (OphAt W1 B o ∧ Below w.heap.size w W1) := ⟨hI, bI⟩
  clear hI bI HB1
  have k0 : W1.cell? ⟨B, 0, none⟩ = some (.int .i64 o.k) := H1.out.1.cell 0
  have k6 : W1.cell? ⟨B, 60, none⟩ = some (.int .i64 o.n) := H1.out.1.cell 60
  by_cases h1 : o.k = 1
  · have g1 : (o.k == 1) = true := by rw [h1]; rfl
    clear h1
    obtain ⟨U, y, en, pn, hg⟩ := ip_shape o.s
    have HG : Hid (ipO (pIP o.s) = .tuple #[.agg (ipCells U y), .int .i64 (en : Nat), .int .i64 (pn : Nat)]) := hg
    clear hg
    have k1 : W1.cell? ⟨B, 1, none⟩ = some (.string o.s) := H1.out.1.cell 1
    go_wp2_with fail
    refine (parseIP_any o.s W1).mono ?_
    rintro e w29 ⟨rfl, hb⟩
    have H30 : Hid (OphAt w29 B o ∧ Below w.heap.size w w29) := ⟨H1.out.1.below hb, H1.out.2.trans (hb.mono H1.out.2.size)⟩
    clear hb
    rw [HG.out]
    clear k0 k1 k6
    obtain ⟨O1, hO⟩ : ∃ O_, O_ = w29.heap.size := ⟨_, rfl⟩
    have HOO1 : Hid (w29.heap.size = O1) := hO.symm
    clear hO
    go_wp2_with (refine wpList_store_ipr (.tmp 3) (.tmp 29) rfl rfl w29.heap.size 0 (fun _ => 0) U y rfl rfl (ipr_new w29 0 (fun _ => 0)) rfl ?_)
    intro w31 hRE kE
    rw [HOO1.out] at hRE kE ⊢
    have bN : Below w29.heap.size w29 w31 := ((Below.refl _ _).alloc (Nat.le_refl _) _).trans (kE.below (fun q h => by have h' : q = O1 := h; have := HOO1.out; omega) (by rw [World.size_alloc]; omega))
    have H32 : Hid (OphAt w31 B o ∧ IprAt w31 O1 U y ∧ Below w.heap.size w w31) := ⟨H30.out.1.below bN, hRE, H30.out.2.trans (bN.mono H30.out.2.size)⟩
    clear hRE kE bN
    have k1 : w31.cell? ⟨B, 1, none⟩ = some (.string o.s) := H32.out.1.cell 1
    go_wp2_with fail
    refine (parseIPR_any o.s w31).mono ?_
    rintro e w33 ⟨rfl, hb⟩
    have H34 : Hid (OphAt w33 B o ∧ IprAt w33 O1 U y ∧ Below w.heap.size w w33) := ⟨H32.out.1.below hb, H32.out.2.1.below hb, H32.out.2.2.trans (hb.mono H32.out.2.2.size)⟩
    clear hb
    rw [HG.out]
    clear k1
    obtain ⟨O2, hO⟩ : ∃ O_, O_ = w33.heap.size := ⟨_, rfl⟩
    have HOO2 : Hid (w33.heap.size = O2) := hO.symm
    clear hO
    go_wp2_with (refine wpList_store_ipr (.tmp 6) (.tmp 36) rfl rfl w33.heap.size 0 (fun _ => 0) U y rfl rfl (ipr_new w33 0 (fun _ => 0)) rfl ?_)
    intro w35 hRE kE
    rw [HOO2.out] at hRE kE ⊢
    have bN : Below w33.heap.size w33 w35 := ((Below.refl _ _).alloc (Nat.le_refl _) _).trans (kE.below (fun q h => by have h' : q = O2 := h; have := HOO2.out; omega) (by rw [World.size_alloc]; omega))
    have H36 : Hid (OphAt w35 B o ∧ IprAt w35 O1 U y ∧ IprAt w35 O2 U y ∧ Below w.heap.size w w35) := ⟨H34.out.1.below bN, H34.out.2.1.below bN, hRE, H34.out.2.2.trans (bN.mono H34.out.2.2.size)⟩
    clear hRE kE bN
    go_wp2_with (first | (refine wpList_load_ipr (.tmp 3) rfl O1 U y rfl H36.out.2.1 rfl ?_) | (refine wpList_load_ipr (.tmp 6) rfl O2 U y rfl H36.out.2.2.1 rfl ?_) | (refine wpList_eql_ipb (.tmp 39) (.tmp 40) rfl U U y y rfl rfl true (by rw [same16_rf, beq_self_eq_true]; rfl) rfl ?_))
    refine (num4_any _ w35).mono ?_
    rintro e wz ⟨rfl, rfl⟩
    go_wp2
    go_ret
    exact ⟨rfl, H36.out.2.2.2⟩
  · have g1 : (o.k == 1) = false := by simp [h1]
    clear h1
    by_cases h2 : o.k = 2
    · have g2 : (o.k == 2) = true := by rw [h2]; rfl
      clear h2
      obtain ⟨q, en, pn, hg⟩ := px_shape o.s
      have HG : Hid (pxO (pPF o.s) = .tuple #[.agg (pfC q), .int .i64 (en : Nat), .int .i64 (pn : Nat)]) := hg
      clear hg
      have k1 : W1.cell? ⟨B, 1, none⟩ = some (.string o.s) := H1.out.1.cell 1
      go_wp2_with fail
      refine (parsePfx_any o.s W1).mono ?_
      rintro e w37 ⟨rfl, hb⟩
      have H38 : Hid (OphAt w37 B o ∧ Below w.heap.size w w37) := ⟨H1.out.1.below hb, H1.out.2.trans (hb.mono H1.out.2.size)⟩
      clear hb
      rw [HG.out]
      clear k0 k1 k6
      obtain ⟨O1, hO⟩ : ∃ O_, O_ = w37.heap.size := ⟨_, rfl⟩
      have HOO1 : Hid (w37.heap.size = O1) := hO.symm
      clear hO
      go_wp2_with (refine wpList_store_pfx (.tmp 9) (.tmp 59) rfl rfl w37.heap.size pz q rfl rfl (pfx_new w37 pz) rfl ?_)
      intro w39 hRE kE
      rw [HOO1.out] at hRE kE ⊢
      have bN : Below w37.heap.size w37 w39 := ((Below.refl _ _).alloc (Nat.le_refl _) _).trans (kE.below (fun q h => by have h' : q = O1 := h; have := HOO1.out; omega) (by rw [World.size_alloc]; omega))
      have H40 : Hid (OphAt w39 B o ∧ PfxAt w39 O1 q ∧ Below w.heap.size w w39) := ⟨H38.out.1.below bN, hRE, H38.out.2.trans (bN.mono H38.out.2.size)⟩
      clear hRE kE bN
      have k1 : w39.cell? ⟨B, 1, none⟩ = some (.string o.s) := H40.out.1.cell 1
      go_wp2_with fail
      refine (parsePfxR_any o.s w39).mono ?_
      rintro e w41 ⟨rfl, hb⟩
      have H42 : Hid (OphAt w41 B o ∧ PfxAt w41 O1 q ∧ Below w.heap.size w w41) := ⟨H40.out.1.below hb, H40.out.2.1.below hb, H40.out.2.2.trans (hb.mono H40.out.2.2.size)⟩
      clear hb
      rw [HG.out]
      clear k1
      obtain ⟨O2, hO⟩ : ∃ O_, O_ = w41.heap.size := ⟨_, rfl⟩
      have HOO2 : Hid (w41.heap.size = O2) := hO.symm
      clear hO
      go_wp2_with (refine wpList_store_pfx (.tmp 12) (.tmp 66) rfl rfl w41.heap.size pz q rfl rfl (pfx_new w41 pz) rfl ?_)
      intro w43 hRE kE
      rw [HOO2.out] at hRE kE ⊢
      have bN : Below w41.heap.size w41 w43 := ((Below.refl _ _).alloc (Nat.le_refl _) _).trans (kE.below (fun q h => by have h' : q = O2 := h; have := HOO2.out; omega) (by rw [World.size_alloc]; omega))
      have H44 : Hid (OphAt w43 B o ∧ PfxAt w43 O1 q ∧ PfxAt w43 O2 q ∧ Below w.heap.size w w43) := ⟨H42.out.1.below bN, H42.out.2.1.below bN, hRE, H42.out.2.2.trans (bN.mono H42.out.2.2.size)⟩
      clear hRE kE bN
      go_wp2_with (first | (refine wpList_load_pfx (.tmp 9) rfl O1 q rfl H44.out.2.1 rfl ?_) | (refine wpList_load_pfx (.tmp 12) rfl O2 q rfl H44.out.2.2.1 rfl ?_) | (refine wpList_eql_pfx (.tmp 69) (.tmp 70) rfl q q rfl rfl true (by rw [same16_rf, beq_self_eq_true, beq_self_eq_true]; rfl) rfl ?_))
      refine (num4_any _ w43).mono ?_
      rintro e wz ⟨rfl, rfl⟩
      go_wp2
      go_ret
      exact ⟨rfl, H44.out.2.2.2⟩
    · have g2 : (o.k == 2) = false := by simp [h2]
      clear h2
      obtain ⟨m, en, pn, hg⟩ := mc_shape o.s
      have HG : Hid (mcO (pMC o.s) = .tuple #[.agg (macC m), .int .i64 (en : Nat), .int .i64 (pn : Nat)]) := hg
      clear hg
      have k1 : W1.cell? ⟨B, 1, none⟩ = some (.string o.s) := H1.out.1.cell 1
      go_wp2_with fail
      refine (parseMac_any o.s W1).mono ?_
      rintro e w45 ⟨rfl, hb⟩
      have H46 : Hid (OphAt w45 B o ∧ Below w.heap.size w w45) := ⟨H1.out.1.below hb, H1.out.2.trans (hb.mono H1.out.2.size)⟩
      clear hb
      rw [HG.out]
      clear k0 k1 k6
      obtain ⟨O1, hO⟩ : ∃ O_, O_ = w45.heap.size := ⟨_, rfl⟩
      have HOO1 : Hid (w45.heap.size = O1) := hO.symm
      clear hO
      go_wp2_with (refine wpList_store_mac (.tmp 15) (.tmp 87) rfl rfl w45.heap.size mz m rfl rfl (mac_new w45 mz) rfl ?_)
      intro w47 hRE kE
      rw [HOO1.out] at hRE kE ⊢
      have bN : Below w45.heap.size w45 w47 := ((Below.refl _ _).alloc (Nat.le_refl _) _).trans (kE.below (fun q h => by have h' : q = O1 := h; have := HOO1.out; omega) (by rw [World.size_alloc]; omega))
      have H48 : Hid (OphAt w47 B o ∧ MacAt w47 O1 m ∧ Below w.heap.size w w47) := ⟨H46.out.1.below bN, hRE, H46.out.2.trans (bN.mono H46.out.2.size)⟩
      clear hRE kE bN
      have k1 : w47.cell? ⟨B, 1, none⟩ = some (.string o.s) := H48.out.1.cell 1
      go_wp2_with fail
      refine (parseMacR_any o.s w47).mono ?_
      rintro e w49 ⟨rfl, hb⟩
      have H50 : Hid (OphAt w49 B o ∧ MacAt w49 O1 m ∧ Below w.heap.size w w49) := ⟨H48.out.1.below hb, H48.out.2.1.below hb, H48.out.2.2.trans (hb.mono H48.out.2.2.size)⟩
      clear hb
      rw [HG.out]
      clear k1
      obtain ⟨O2, hO⟩ : ∃ O_, O_ = w49.heap.size := ⟨_, rfl⟩
      have HOO2 : Hid (w49.heap.size = O2) := hO.symm
      clear hO
      go_wp2_with (refine wpList_store_mac (.tmp 18) (.tmp 94) rfl rfl w49.heap.size mz m rfl rfl (mac_new w49 mz) rfl ?_)
      intro w51 hRE kE
      rw [HOO2.out] at hRE kE ⊢
      have bN : Below w49.heap.size w49 w51 := ((Below.refl _ _).alloc (Nat.le_refl _) _).trans (kE.below (fun q h => by have h' : q = O2 := h; have := HOO2.out; omega) (by rw [World.size_alloc]; omega))
      have H52 : Hid (OphAt w51 B o ∧ MacAt w51 O1 m ∧ MacAt w51 O2 m ∧ Below w.heap.size w w51) := ⟨H50.out.1.below bN, H50.out.2.1.below bN, hRE, H50.out.2.2.trans (bN.mono H50.out.2.2.size)⟩
      clear hRE kE bN
      go_wp2_with (first | (refine wpList_load_mac (.tmp 15) rfl O1 m rfl H52.out.2.1 rfl ?_) | (refine wpList_load_mac (.tmp 18) rfl O2 m rfl H52.out.2.2.1 rfl ?_) | (refine wpList_eql_mac (.tmp 97) (.tmp 98) rfl m m rfl rfl true (same6_rfC m) rfl ?_))
      refine (num4_any _ w51).mono ?_
      rintro e wz ⟨rfl, rfl⟩
      go_wp2
      go_ret
      exact ⟨rfl, H52.out.2.2.2⟩
end Go.Proofs.YteldiggaooeeeaaGreatDoor
