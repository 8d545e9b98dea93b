/-
  Layer 15's reference: out, New, address, Less.
-/
import Derived.Test.YtialefdojeddjaaNrSt
namespace Go.Proofs.Ytialefdojeddjaa
open Go.RowKit Go.Maps

set_option maxHeartbeats 800000 in
theorem rout_any (n lo hi : Int) (w : World) : Calls Try.prog 79 #[.int .i64 n, .int .i64 lo, .int .i64 hi] w fun e w' => e = .returned (.bool (!inR n lo hi)) ∧ w = w' := by
  by_cases h1 : n < lo
  · have q1 : decide (n < lo) = true := by simpa using h1
    have HR : Hid ((!inR n lo hi) = true) := by show (!inR n lo hi) = true; unfold inR; rw [decide_eq_false (by omega)]; rfl
    clear h1
    go_enter Try.func79, Try.ntmps79
    go_wp2
    go_ret
    exact ⟨by rw [HR.out]; rfl, rfl⟩
  · have q1 : decide (n < lo) = false := by simpa using h1
    by_cases h2 : n > hi
    · have q2 : decide (n > hi) = true := by simpa using h2
      have HR : Hid ((!inR n lo hi) = true) := by show (!inR n lo hi) = true; unfold inR; rw [decide_eq_false (p := n ≤ hi) (by omega)]; simp
      clear h1 h2
      go_enter Try.func79, Try.ntmps79
      go_wp2
      go_ret
      exact ⟨by rw [HR.out]; rfl, rfl⟩
    · have q2 : decide (n > hi) = false := by simpa using h2
      have HR : Hid ((!inR n lo hi) = false) := by show (!inR n lo hi) = false; unfold inR; rw [decide_eq_true (p := n ≤ hi) (by omega), decide_eq_true (p := lo ≤ n) (by omega)]; rfl
      clear h1 h2
      go_enter Try.func79, Try.ntmps79
      go_wp2
      go_ret
      exact ⟨by rw [HR.out]; rfl, rfl⟩
theorem results_rch_tmp {fn : Func} {p u : Tmp} (h : fn.results = #[.cell p 87, .tmp u]) (tmps : Array Value) (w : World) (O : Nat) (v : RC) (hp : tmps.getD p undef = .pointer (some ⟨O, 0, none⟩)) (hb : RchAt w O v) :
    (results fn tmps).run Try.prog w = .ok (.tuple #[.agg (rcC v), tmps.getD u undef]) w := by
  rw [results_cell_tmp h tmps Try.prog w, hp]
  simp [asAddr, run_loadVar_row w O _ 87 (rcC v) _ _ hb Try.underlying87 rfl Try.size_rch, Result.andThen]
theorem run_buildrc (c : CF) (w : World) : (Instr.build 87 #[(0, .agg (cfC c))]).run Try.prog w = .ok (.agg (rcC ⟨c, none, 0, 0⟩)) w := by kernel_rfl
theorem run_buildrc0 (w : World) : (Instr.build 87 #[]).run Try.prog w = .ok (.agg (rcC rcz)) w := by kernel_rfl
theorem wpList_build_rc {ops : Array Oper} {rest : List Oper} {o : Oper} {a : Act} {w : World} {Q : Exit → Act → World → Prop} (x : Operand) (ho : o.op = .build 87 #[(0, x)]) (c : CF) (hx : a.eval x = .agg (cfC c)) (hw : Region.wanted o (yielded ops a.tmps) = true)
    (h : wpList Try.prog ops Q rest (a.put o.dst (.agg (rcC ⟨c, none, 0, 0⟩))) w) : wpList Try.prog ops Q (o :: rest) a w := by
  refine wpList_step fun K hK => ?_
  rw [if_pos hw]
  have hrun : (execOp a.eval o).run Try.prog w = .ok (.value (.agg (rcC ⟨c, none, 0, 0⟩))) w := by
    unfold execOp
    simp only [ho, Sem.run_bind, List.map_toArray, List.map_cons, List.map_nil, hx, run_buildrc c w, Result.andThen_ok]
    rfl
  unfold Oper.wp
  rw [hrun]
  exact hK _ _ h
theorem wpList_build_rc0 {ops : Array Oper} {rest : List Oper} {o : Oper} {a : Act} {w : World} {Q : Exit → Act → World → Prop} (ho : o.op = .build 87 #[]) (hw : Region.wanted o (yielded ops a.tmps) = true)
    (h : wpList Try.prog ops Q rest (a.put o.dst (.agg (rcC rcz))) w) : wpList Try.prog ops Q (o :: rest) a w := by
  refine wpList_step fun K hK => ?_
  rw [if_pos hw]
  have hrun : (execOp a.eval o).run Try.prog w = .ok (.value (.agg (rcC rcz))) w := by
    unfold execOp
    simp only [ho, Sem.run_bind, List.map_toArray, List.map_nil, run_buildrc0 w, Result.andThen_ok]
    rfl
  unfold Oper.wp
  rw [hrun]
  exact hK _ _ h
set_option maxHeartbeats 3200000 in
set_option maxRecDepth 100000 in
theorem rnew_any (c : CF) (w : World) : Calls Try.prog 62 #[.agg (cfC c)] w fun e w' => e = .returned (.tuple #[.agg (rcC (if cfB c then ⟨c, none, 0, 0⟩ else rcz)), .int .i64 (if cfB c then 0 else 150)]) ∧ Below w.heap.size w w' := by
  have hb := cfg_new w c
  have bel : Below w.heap.size w (w.alloc (.cells (cfC c) 23)) := (Below.refl _ _).alloc (Nat.le_refl _) _
  obtain ⟨CX, hC⟩ : ∃ C, C = cfC c := ⟨_, rfl⟩
  obtain ⟨W, hW⟩ : ∃ W, W = w.alloc (.cells (cfC c) 23) := ⟨_, rfl⟩
  rw [← hW] at hb bel
  obtain ⟨B, hB⟩ : ∃ B, B = w.heap.size := ⟨_, rfl⟩
  rw [← hB] at hb
  have HBX : Hid (CfgAt W B c) := hb
  rw [← hC] at hW ⊢
  have HOX : Hid (w.heap.size = B) := hB.symm
  have HLX : Hid (Below w.heap.size w W) := bel
  have HWX : Hid (w.alloc (.cells CX 23) = W) := hW.symm
  clear hb hW hB hC bel
  have HSZ : Hid (W.heap.size = B + 1) := by show _ = _; rw [← HWX.out, World.size_alloc, HOX.out]
  obtain ⟨Y, hY⟩ : ∃ Y, Y = W.alloc (.cells (rcC rcz) 87) := ⟨_, rfl⟩
  have bY : Below W.heap.size W Y := by rw [hY]; exact (Below.refl _ _).alloc (Nat.le_refl _) _
  have HY : Hid (CfgAt Y B c ∧ RchAt Y (B + 1) rcz ∧ Below w.heap.size w Y) := ⟨HBX.out.below bY, by rw [hY, ← HSZ.out]; exact rch_new W rcz, bthen HLX.out bY⟩
  have HYE : Hid (W.alloc (.cells (rcC rcz) 87) = Y) := hY.symm
  clear hY bY
  have c0 : Y.cell? ⟨B, 0, none⟩ = some (.int .i64 c.mx) := HY.out.1.cell 0
  have c1 : Y.cell? ⟨B, 1, none⟩ = some (.int .i64 c.li) := HY.out.1.cell 1
  have c2 : Y.cell? ⟨B, 2, none⟩ = some (.int .i64 c.ev) := HY.out.1.cell 2
  have c3 : Y.cell? ⟨B, 3, none⟩ = some (.int .i64 c.tr) := HY.out.1.cell 3
  have c4 : Y.cell? ⟨B, 4, none⟩ = some (.int .i64 c.fr) := HY.out.1.cell 4
  have Q0 : Hid _ := rout_any c.mx 1 1024 Y
  have Q1 : Hid _ := rout_any c.li 1 64 Y
  have Q2 : Hid _ := rout_any c.ev 1 1048576 Y
  have Q3 : Hid _ := rout_any c.tr 1 16 Y
  have Q4 : Hid _ := rout_any c.fr 1 1048576 Y
  obtain ⟨cb, hcb⟩ : ∃ cb, cb = cfB c := ⟨_, rfl⟩
  rw [← hcb]
  have hcb' := hcb
  unfold cfB at hcb'
  cases hb0 : inR c.mx 1 1024
  · rw [hb0] at Q0 hcb'
    simp only [Bool.false_and] at hcb'
    subst hcb'
    clear hcb
    clear hb0
    go_enter Try.func62, Try.ntmps62
    go_upto_region 1 with (first | (rw [HOX.out, HWX.out]; refine wpList_alloc_rch rfl rfl ?_; rw [HSZ.out, HYE.out]; simp only [Act.put, List.setIfInBounds_toArray, List.set_cons_succ, List.set_cons_zero]))
    go_wp2_with fail
    refine Calls.mono Q0.out ?_
    rintro r x ⟨rfl, rfl⟩
    go_upto_region 2 with fail
    go_wp2_with (first | (refine wpList_build_rc0 rfl rfl ?_) | (refine wpList_store_rch (.tmp 2) (.tmp 27) rfl rfl (B + 1) rcz rcz rfl rfl HY.out.2.1 rfl ?_))
    intro w2 h2 k2
    have H2 : Hid (RchAt w2 (B + 1) rcz ∧ Below w.heap.size w w2) := ⟨h2, HY.out.2.2.trans (k2.below (fun q e => by have e' : q = B + 1 := e; have := HOX.out; omega) HY.out.2.2.size)⟩
    clear h2 k2
    go_wp2_with fail
    refine bodyPost_ret (results_rch_tmp rfl _ _ (B + 1) _ rfl H2.out.1) rfl ?_
    exact ⟨rfl, H2.out.2⟩
  · rw [hb0] at Q0 hcb'
    cases hb1 : inR c.li 1 64
    · rw [hb1] at Q1 hcb'
      simp only [Bool.false_and, Bool.and_false] at hcb'
      subst hcb'
      clear hcb
      clear hb0
      clear hb1
      go_enter Try.func62, Try.ntmps62
      go_upto_region 1 with (first | (rw [HOX.out, HWX.out]; refine wpList_alloc_rch rfl rfl ?_; rw [HSZ.out, HYE.out]; simp only [Act.put, List.setIfInBounds_toArray, List.set_cons_succ, List.set_cons_zero]))
      go_wp2_with fail
      refine Calls.mono Q0.out ?_
      rintro r x ⟨rfl, rfl⟩
      go_wp2_with fail
      refine Calls.mono Q1.out ?_
      rintro r x ⟨rfl, rfl⟩
      go_upto_region 2 with fail
      go_wp2_with (first | (refine wpList_build_rc0 rfl rfl ?_) | (refine wpList_store_rch (.tmp 2) (.tmp 27) rfl rfl (B + 1) rcz rcz rfl rfl HY.out.2.1 rfl ?_))
      intro w2 h2 k2
      have H2 : Hid (RchAt w2 (B + 1) rcz ∧ Below w.heap.size w w2) := ⟨h2, HY.out.2.2.trans (k2.below (fun q e => by have e' : q = B + 1 := e; have := HOX.out; omega) HY.out.2.2.size)⟩
      clear h2 k2
      go_wp2_with fail
      refine bodyPost_ret (results_rch_tmp rfl _ _ (B + 1) _ rfl H2.out.1) rfl ?_
      exact ⟨rfl, H2.out.2⟩
    · rw [hb1] at Q1 hcb'
      cases hb2 : inR c.ev 1 1048576
      · rw [hb2] at Q2 hcb'
        simp only [Bool.false_and, Bool.and_false] at hcb'
        subst hcb'
        clear hcb
        clear hb0
        clear hb1
        clear hb2
        go_enter Try.func62, Try.ntmps62
        go_upto_region 1 with (first | (rw [HOX.out, HWX.out]; refine wpList_alloc_rch rfl rfl ?_; rw [HSZ.out, HYE.out]; simp only [Act.put, List.setIfInBounds_toArray, List.set_cons_succ, List.set_cons_zero]))
        go_wp2_with fail
        refine Calls.mono Q0.out ?_
        rintro r x ⟨rfl, rfl⟩
        go_wp2_with fail
        refine Calls.mono Q1.out ?_
        rintro r x ⟨rfl, rfl⟩
        go_wp2_with fail
        refine Calls.mono Q2.out ?_
        rintro r x ⟨rfl, rfl⟩
        go_upto_region 2 with fail
        go_wp2_with (first | (refine wpList_build_rc0 rfl rfl ?_) | (refine wpList_store_rch (.tmp 2) (.tmp 27) rfl rfl (B + 1) rcz rcz rfl rfl HY.out.2.1 rfl ?_))
        intro w2 h2 k2
        have H2 : Hid (RchAt w2 (B + 1) rcz ∧ Below w.heap.size w w2) := ⟨h2, HY.out.2.2.trans (k2.below (fun q e => by have e' : q = B + 1 := e; have := HOX.out; omega) HY.out.2.2.size)⟩
        clear h2 k2
        go_wp2_with fail
        refine bodyPost_ret (results_rch_tmp rfl _ _ (B + 1) _ rfl H2.out.1) rfl ?_
        exact ⟨rfl, H2.out.2⟩
      · rw [hb2] at Q2 hcb'
        cases hb3 : inR c.tr 1 16
        · rw [hb3] at Q3 hcb'
          simp only [Bool.false_and, Bool.and_false] at hcb'
          subst hcb'
          clear hcb
          clear hb0
          clear hb1
          clear hb2
          clear hb3
          go_enter Try.func62, Try.ntmps62
          go_upto_region 1 with (first | (rw [HOX.out, HWX.out]; refine wpList_alloc_rch rfl rfl ?_; rw [HSZ.out, HYE.out]; simp only [Act.put, List.setIfInBounds_toArray, List.set_cons_succ, List.set_cons_zero]))
          go_wp2_with fail
          refine Calls.mono Q0.out ?_
          rintro r x ⟨rfl, rfl⟩
          go_wp2_with fail
          refine Calls.mono Q1.out ?_
          rintro r x ⟨rfl, rfl⟩
          go_wp2_with fail
          refine Calls.mono Q2.out ?_
          rintro r x ⟨rfl, rfl⟩
          go_wp2_with fail
          refine Calls.mono Q3.out ?_
          rintro r x ⟨rfl, rfl⟩
          go_upto_region 2 with fail
          go_wp2_with (first | (refine wpList_build_rc0 rfl rfl ?_) | (refine wpList_store_rch (.tmp 2) (.tmp 27) rfl rfl (B + 1) rcz rcz rfl rfl HY.out.2.1 rfl ?_))
          intro w2 h2 k2
          have H2 : Hid (RchAt w2 (B + 1) rcz ∧ Below w.heap.size w w2) := ⟨h2, HY.out.2.2.trans (k2.below (fun q e => by have e' : q = B + 1 := e; have := HOX.out; omega) HY.out.2.2.size)⟩
          clear h2 k2
          go_wp2_with fail
          refine bodyPost_ret (results_rch_tmp rfl _ _ (B + 1) _ rfl H2.out.1) rfl ?_
          exact ⟨rfl, H2.out.2⟩
        · rw [hb3] at Q3 hcb'
          cases hb4 : inR c.fr 1 1048576
          · rw [hb4] at Q4 hcb'
            simp only [Bool.and_false] at hcb'
            subst hcb'
            clear hcb
            clear hb0
            clear hb1
            clear hb2
            clear hb3
            clear hb4
            go_enter Try.func62, Try.ntmps62
            go_upto_region 1 with (first | (rw [HOX.out, HWX.out]; refine wpList_alloc_rch rfl rfl ?_; rw [HSZ.out, HYE.out]; simp only [Act.put, List.setIfInBounds_toArray, List.set_cons_succ, List.set_cons_zero]))
            go_wp2_with fail
            refine Calls.mono Q0.out ?_
            rintro r x ⟨rfl, rfl⟩
            go_wp2_with fail
            refine Calls.mono Q1.out ?_
            rintro r x ⟨rfl, rfl⟩
            go_wp2_with fail
            refine Calls.mono Q2.out ?_
            rintro r x ⟨rfl, rfl⟩
            go_wp2_with fail
            refine Calls.mono Q3.out ?_
            rintro r x ⟨rfl, rfl⟩
            go_wp2_with fail
            refine Calls.mono Q4.out ?_
            rintro r x ⟨rfl, rfl⟩
            go_upto_region 2 with fail
            go_wp2_with (first | (refine wpList_build_rc0 rfl rfl ?_) | (refine wpList_store_rch (.tmp 2) (.tmp 27) rfl rfl (B + 1) rcz rcz rfl rfl HY.out.2.1 rfl ?_))
            intro w2 h2 k2
            have H2 : Hid (RchAt w2 (B + 1) rcz ∧ Below w.heap.size w w2) := ⟨h2, HY.out.2.2.trans (k2.below (fun q e => by have e' : q = B + 1 := e; have := HOX.out; omega) HY.out.2.2.size)⟩
            clear h2 k2
            go_wp2_with fail
            refine bodyPost_ret (results_rch_tmp rfl _ _ (B + 1) _ rfl H2.out.1) rfl ?_
            exact ⟨rfl, H2.out.2⟩
          · rw [hb4] at Q4 hcb'
            simp only [Bool.and_self] at hcb'
            subst hcb'
            clear hcb
            clear hb0 hb1 hb2 hb3 hb4
            go_enter Try.func62, Try.ntmps62
            go_upto_region 1 with (first | (rw [HOX.out, HWX.out]; refine wpList_alloc_rch rfl rfl ?_; rw [HSZ.out, HYE.out]; simp only [Act.put, List.setIfInBounds_toArray, List.set_cons_succ, List.set_cons_zero]))
            go_wp2_with fail
            refine Calls.mono Q0.out ?_
            rintro r x ⟨rfl, rfl⟩
            go_wp2_with fail
            refine Calls.mono Q1.out ?_
            rintro r x ⟨rfl, rfl⟩
            go_wp2_with fail
            refine Calls.mono Q2.out ?_
            rintro r x ⟨rfl, rfl⟩
            go_wp2_with fail
            refine Calls.mono Q3.out ?_
            rintro r x ⟨rfl, rfl⟩
            go_wp2_with fail
            refine Calls.mono Q4.out ?_
            rintro r x ⟨rfl, rfl⟩
            go_upto_region 3 with fail
            go_wp2_with (first | (refine wpList_load_cfg (.tmp 1) rfl B c rfl HY.out.1 rfl ?_) | (refine wpList_build_rc (.tmp 28) rfl c rfl rfl ?_) | (refine wpList_store_rch (.tmp 2) (.tmp 29) rfl rfl (B + 1) rcz ⟨c, none, 0, 0⟩ rfl rfl HY.out.2.1 rfl ?_))
            intro w2 h2 k2
            have H2 : Hid (RchAt w2 (B + 1) ⟨c, none, 0, 0⟩ ∧ Below w.heap.size w w2) := ⟨h2, HY.out.2.2.trans (k2.below (fun q e => by have e' : q = B + 1 := e; have := HOX.out; omega) HY.out.2.2.size)⟩
            clear h2 k2
            go_wp2_with fail
            refine bodyPost_ret (results_rch_tmp rfl _ _ (B + 1) _ rfl H2.out.1) rfl ?_
            exact ⟨rfl, H2.out.2⟩
set_option maxHeartbeats 3200000 in
set_option maxRecDepth 100000 in
theorem rless_any (pk : Int) (V U : Int) (x y : Nat → Nat) (hx : ∀ i, i < 16 → x i < 256) (hy : ∀ i, i < 16 → y i < 256) (w : World) : Calls Try.prog 104 #[.agg (ipCells V x), .agg (ipCells U y)] w fun e w' => LessP ⟨pk, V, x⟩ ⟨pk, U, y⟩ w e w' := by
  have hi := ipr_new w V x
  have hi' := ipr_new (w.alloc (.cells (ipCells V x) 31)) U y
  rw [World.size_alloc] at hi'
  obtain ⟨Y, hY⟩ : ∃ Y, Y = (w.alloc (.cells (ipCells V x) 31)).alloc (.cells (ipCells U y) 31) := ⟨_, rfl⟩
  have bY : Below w.heap.size w Y := by rw [hY]; exact ((Below.refl _ _).alloc (Nat.le_refl _) _).alloc (by simp) _
  have hi2 : IprAt Y w.heap.size V x := by rw [hY]; exact hi.below ((Below.refl _ _).alloc (Nat.le_refl _) _)
  rw [← hY] at hi'
  obtain ⟨B, hB⟩ : ∃ B, B = w.heap.size := ⟨_, rfl⟩
  rw [← hB] at hi2 hi'
  obtain ⟨CI, hCI⟩ : ∃ C, C = ipCells V x := ⟨_, rfl⟩
  obtain ⟨CM, hCM⟩ : ∃ C, C = ipCells U y := ⟨_, rfl⟩
  have HX : Hid ((∀ i, i < 16 → x i < 256) ∧ ∀ i, i < 16 → y i < 256) := ⟨hx, hy⟩
  rw [← hCI, ← hCM] at hY ⊢
  have HI : Hid (IprAt Y B V x ∧ IprAt Y (B + 1) U y) := ⟨hi2, hi'⟩
  have HW : Hid ((w.alloc (.cells CI 31)).alloc (.cells CM 31) = Y ∧ w.heap.size = B) := ⟨hY.symm, hB.symm⟩
  have HBY : Hid (Below w.heap.size w Y) := bY
  clear hi hi' hY bY hi2 hB hCI hCM hx hy
  go_enter Try.func104, Try.ntmps104
  go_upto_region 1 with fail
  rw [HW.out.1, HW.out.2]
  have c0 : Y.cell? ⟨B, 0, none⟩ = some (.int .i64 V) := HI.out.1.cell 0
  have c1 : Y.cell? ⟨B + 1, 0, none⟩ = some (.int .i64 U) := HI.out.2.cell 0
  by_cases hV : V = U
  · subst hV
    have q2 : (V != V) = false := by simp
    go_wp2_with fail
    clear c0 c1
    go_loopw [5] (fun ix wr => ∃ i : Nat, ix = .int .i64 i ∧ i ≤ 16 ∧ Hid (Below Y.heap.size Y wr ∧ ∀ j, j < i → x j = y j)) (fun ix _ => 16 - (intOf ix).toNat)
    case atStart => exact ⟨0, rfl, by omega, Below.refl _ _, fun j hj => by omega⟩
    case round =>
      obtain ⟨i, rfl, hi, HR⟩ := hrel
      by_cases hlt : i < 16
      · have k1 : (i : Int) < 16 := by omega
        have k0 : (0 : Int) ≤ (i : Int) := by omega
        have k2 : ((i : Int)).toNat = i := by omega
        have wi : IntKind.i64.wrap ((i : Int) + 1) = (i : Int) + 1 := by rw [IntKind.wrap_i64]; omega
        obtain ⟨u, hu⟩ : ∃ u, u = x i := ⟨_, rfl⟩
        obtain ⟨v, hv⟩ : ∃ v, v = y i := ⟨_, rfl⟩
        have cu : wr.cell? ⟨B, 1 + i, none⟩ = some (.int .u8 (u : Nat)) := by rw [hu]; exact (HI.out.1.below HR.out.1).boxed.2 i hlt
        have cv : wr.cell? ⟨B + 1, 1 + i, none⟩ = some (.int .u8 (v : Nat)) := by rw [hv]; exact (HI.out.2.below HR.out.1).boxed.2 i hlt
        have HU : Hid (u = x i ∧ v = y i ∧ i < 16) := ⟨hu, hv, hlt⟩
        clear hu hv hi
        by_cases huv : u = v
        · subst huv
          have q3 : ((u : Int) != (u : Int)) = false := by simp
          go_wp2
          go_region
          go_wp2
          go_roundw
          case rel => exact ⟨i + 1, by first | rfl | go_num, by have := HU.out.2.2; omega, HR.out.1.drew, fun j hj => by
            by_cases h : j = i
            · rw [h, ← HU.out.1, ← HU.out.2.1]
            · exact HR.out.2 j (by omega)⟩
          case measure => have := HU.out.2.2; simp [intOf]; omega
        · have q3 : ((u : Int) != (v : Int)) = true := by rw [bne_iff_ne]; omega
          have HN : Hid (u ≠ v) := huv
          clear huv
          have HL : Hid (u < v ↔ Lib.compareBytes (by16 x) (by16 y) < 0) := by
            have h := HU.out
            have := cmp_at x y i h.2.2 HR.out.2 (HX.out.1 i h.2.2) (HX.out.2 i h.2.2) (by rw [← h.1, ← h.2.1]; exact HN.out)
            rw [← h.1, ← h.2.1] at this
            exact this.symm
          go_wp2
          go_region
          go_wp2
          go_region
          go_wp2
          go_ret
          refine ⟨decide (u < v), rfl, ?_, (bthen HBY.out HR.out.1).drew.drew⟩
          rw [decide_eq_true_eq]
          unfold lt3 cB
          constructor
          · intro h
            exact .inr ⟨rfl, .inr ⟨rfl, HL.out.1 (by omega)⟩⟩
          · rintro (h | ⟨_, h | ⟨_, h⟩⟩)
            · exact absurd h (Int.lt_irrefl _)
            · exact absurd h (Int.lt_irrefl _)
            · have := HL.out.2 h; omega
      · have hni : ¬ ((i : Int) < 16) := by omega
        have h16 : i = 16 := by omega
        subst h16
        have HA : Hid (¬ Lib.compareBytes (by16 x) (by16 y) < 0) := cmp_all x y HR.out.2
        go_wp2
        go_ret
        refine ⟨false, rfl, ?_, bthen HBY.out HR.out.1⟩
        constructor
        · intro h; cases h
        · rintro (h | ⟨_, h | ⟨_, h⟩⟩)
          · exact absurd h (Int.lt_irrefl _)
          · exact absurd h (Int.lt_irrefl _)
          · have h2 : Lib.compareBytes (by16 x) (by16 y) < 0 := h; have := HA.out; omega
  · have q2 : (V != U) = true := by simpa using hV
    obtain ⟨bb, hbb⟩ : ∃ bb, decide (V < U) = bb := ⟨_, rfl⟩
    have HBB : Hid (decide (V < U) = bb) := hbb
    have HV : Hid (V ≠ U) := hV
    clear hV
    go_wp2_with fail
    go_ret
    refine ⟨bb, rfl, ?_, HBY.out⟩
    rw [← HBB.out, decide_eq_true_eq]
    constructor
    · intro h
      exact .inr ⟨rfl, .inl h⟩
    · rintro (h | ⟨_, h | ⟨h, _⟩⟩)
      · exact absurd h (Int.lt_irrefl _)
      · exact h
      · exact absurd h HV.out
end Go.Proofs.Ytialefdojeddjaa
