/-
  Layer 17: configMayBe, New.
-/
import Derived.Test.YtclpeepnngegaaaDoorFlFn8
namespace Go.Proofs.YtclpeepnngegaaaDoor
open Go.RowKit Go.Maps

def tm (c : CF) (i : Nat) : Int := [c.sy, c.tc, c.fi, c.ud, c.ic].getD i 0
def tmC (c : CF) : Array Value := #[.int .i64 c.sy, .int .i64 c.tc, .int .i64 c.fi, .int .i64 c.ud, .int .i64 c.ic]
theorem index_t0 (c : CF) (w : World) : (Instr.index 89 (.agg (tmC c)) (.int .i64 ((0 : Nat) : Int))).run Tryd.prog w = .ok (.int .i64 (tm c 0)) w := by kernel_rfl
theorem index_t1 (c : CF) (w : World) : (Instr.index 89 (.agg (tmC c)) (.int .i64 ((1 : Nat) : Int))).run Tryd.prog w = .ok (.int .i64 (tm c 1)) w := by kernel_rfl
theorem index_t2 (c : CF) (w : World) : (Instr.index 89 (.agg (tmC c)) (.int .i64 ((2 : Nat) : Int))).run Tryd.prog w = .ok (.int .i64 (tm c 2)) w := by kernel_rfl
theorem index_t3 (c : CF) (w : World) : (Instr.index 89 (.agg (tmC c)) (.int .i64 ((3 : Nat) : Int))).run Tryd.prog w = .ok (.int .i64 (tm c 3)) w := by kernel_rfl
theorem index_t4 (c : CF) (w : World) : (Instr.index 89 (.agg (tmC c)) (.int .i64 ((4 : Nat) : Int))).run Tryd.prog w = .ok (.int .i64 (tm c 4)) w := by kernel_rfl
theorem index_t (c : CF) (w : World) (k : Nat) (hk : k < 5) : (Instr.index 89 (.agg (tmC c)) (.int .i64 (k : Int))).run Tryd.prog w = .ok (.int .i64 (tm c k)) w := by
  have : k = 0 ∨ k = 1 ∨ k = 2 ∨ k = 3 ∨ k = 4 := by omega
  clear hk
  rcases this with rfl | rfl | rfl | rfl | rfl
  · exact index_t0 c w
  · exact index_t1 c w
  · exact index_t2 c w
  · exact index_t3 c w
  · exact index_t4 c w
theorem wpList_index_t {ops : Array Oper} {rest : List Oper} {o : Oper} {a : Act} {w : World} {Q : Exit → Act → World → Prop} (x y : Operand) (ho : o.op = .index 89 x y) (c : CF) (k : Nat) (hk : k < 5) (hx : a.eval x = .agg (tmC c)) (hy : a.eval y = .int .i64 k)
    (hw : Region.wanted o (yielded ops a.tmps) = true) (hh : wpList Tryd.prog ops Q rest (a.put o.dst (.int .i64 (tm c k))) w) : wpList Tryd.prog ops Q (o :: rest) a w := by
  refine wpList_step fun K hK => ?_
  rw [if_pos hw]
  unfold Oper.wp execOp
  simp only [ho, hx, hy, Sem.run_bind, index_t c w k hk, Result.andThen_ok]
  exact hK _ _ hh
theorem run_build5 (c : CF) (w : World) : (Instr.build 89 #[(0, .int .i64 c.sy), (1, .int .i64 c.tc), (2, .int .i64 c.fi), (3, .int .i64 c.ud), (4, .int .i64 c.ic)]).run Tryd.prog w = .ok (.agg (tmC c)) w := by kernel_rfl
theorem wpList_build5 {ops : Array Oper} {rest : List Oper} {o : Oper} {a : Act} {w : World} {Q : Exit → Act → World → Prop} (y0 y1 y2 y3 y4 : Operand) (ho : o.op = .build 89 #[(0, y0), (1, y1), (2, y2), (3, y3), (4, y4)]) (c : CF) (h0 : a.eval y0 = .int .i64 c.sy) (h1 : a.eval y1 = .int .i64 c.tc) (h2 : a.eval y2 = .int .i64 c.fi) (h3 : a.eval y3 = .int .i64 c.ud) (h4 : a.eval y4 = .int .i64 c.ic) (hw : Region.wanted o (yielded ops a.tmps) = true)
    (h : wpList Tryd.prog ops Q rest (a.put o.dst (.agg (tmC c))) w) : wpList Tryd.prog ops Q (o :: rest) a w := by
  refine wpList_step fun K hK => ?_
  rw [if_pos hw]
  have hrun : (execOp a.eval o).run Tryd.prog w = .ok (.value (.agg (tmC c))) w := by
    obtain ⟨dst, op, type, pos, after, guard⟩ := o
    simp only at ho
    subst ho
    simp only [execOp, Sem.run_bind, List.map_toArray, List.map_cons, List.map_nil, h0, h1, h2, h3, h4, run_build5 c w, Result.andThen_ok]
    rfl
  unfold Oper.wp
  rw [hrun]
  exact hK _ _ h
theorem CfgAt.c0 {w : World} {O : Nat} {c : CF} (h : CfgAt w O c) : w.cell? ⟨O, 0, none⟩ = some (.int .i64 c.mx) := h.cell 0
theorem CfgAt.c1 {w : World} {O : Nat} {c : CF} (h : CfgAt w O c) : w.cell? ⟨O, 1, none⟩ = some (.int .i64 c.oV) := h.cell 1
theorem CfgAt.c18 {w : World} {O : Nat} {c : CF} (h : CfgAt w O c) : w.cell? ⟨O, 18, none⟩ = some (.int .i64 c.lo) := h.cell 18
theorem CfgAt.c19 {w : World} {O : Nat} {c : CF} (h : CfgAt w O c) : w.cell? ⟨O, 19, none⟩ = some (.int .i64 c.hi) := h.cell 19
/-- the five times -/
def agB (c : CF) : Bool := inR c.sy 1 1048576 && inR c.tc 1 1048576 && inR c.fi 1 1048576 && inR c.ud 1 1048576 && inR c.ic 1 1048576
/-- may a table have that configuration? -/
def cfB (c : CF) : Bool := agB c && (inR c.mx 1 4096 && c.oV == 4 && (clsA c.oV c.o == 7 || clsA c.oV c.o == 4) && decide (1 ≤ c.lo) && decide (c.lo ≤ c.hi) && decide (c.hi ≤ 65535))
theorem inR_iff {n lo hi : Int} : inR n lo hi = true ↔ lo ≤ n ∧ n ≤ hi := by unfold inR; simp
theorem cfB_ok {c : CF} (h : cfB c = true) (ho : ∀ i, i < 16 → c.o i < 256) : CfOk c := by
  unfold cfB agB at h
  simp only [Bool.and_eq_true, inR_iff, beq_iff_eq, decide_eq_true_eq] at h
  obtain ⟨⟨⟨⟨⟨h1, h2⟩, h3⟩, h4⟩, h5⟩, ⟨⟨⟨⟨h6, h7⟩, _⟩, h9⟩, h10⟩, h11⟩ := h
  exact ⟨h6, h7, ho, h9, h10, h11, h1, h2, h3, h4, h5⟩
theorem agB_all {c : CF} (h : ∀ j, j < 5 → inR (tm c j) 1 1048576 = true) : agB c = true := by
  unfold agB
  rw [show c.sy = tm c 0 from rfl, show c.tc = tm c 1 from rfl, show c.fi = tm c 2 from rfl, show c.ud = tm c 3 from rfl, show c.ic = tm c 4 from rfl, h 0 (by decide), h 1 (by decide), h 2 (by decide), h 3 (by decide), h 4 (by decide)]
  rfl
theorem agB_no {c : CF} {j : Nat} (hj : j < 5) (h : inR (tm c j) 1 1048576 = false) : agB c = false := by
  have : j = 0 ∨ j = 1 ∨ j = 2 ∨ j = 3 ∨ j = 4 := by omega
  clear hj
  unfold agB
  rcases this with rfl | rfl | rfl | rfl | rfl
  · rw [show c.sy = tm c 0 from rfl, h]; rfl
  · rw [show c.tc = tm c 1 from rfl, h]; simp
  · rw [show c.fi = tm c 2 from rfl, h]; simp
  · rw [show c.ud = tm c 3 from rfl, h]; simp
  · rw [show c.ic = tm c 4 from rfl, h]; simp
set_option maxHeartbeats 1600000 in
set_option maxRecDepth 100000 in
theorem mayBe_any (c : CF) (w : World) (ho : ∀ i, i < 16 → c.o i < 256) (hs : Spe8 w) : Calls Tryd.prog 30 #[.agg (cfC c)] w fun r w' => r = .returned (.bool (cfB c)) ∧ Below w.heap.size w w' := by
  have HC : Hid ((∀ i, i < 16 → c.o i < 256) ∧ Spe8 w) := ⟨ho, hs⟩
  clear ho hs
  have hb := cfg_new w c
  have bel : Below w.heap.size w (w.alloc (.cells (cfC c) 26)) := (Below.refl _ _).alloc (Nat.le_refl _) _
  obtain ⟨CX, hC⟩ : ∃ C, C = cfC c := ⟨_, rfl⟩
  obtain ⟨W, hW⟩ : ∃ W, W = w.alloc (.cells (cfC c) 26) := ⟨_, rfl⟩
  rw [← hW] at hb bel
  have HSZX : Hid (W.heap.size = w.heap.size + 1) := by show _ = _; rw [hW, World.size_alloc]
  obtain ⟨B, hB⟩ : ∃ B, B = w.heap.size := ⟨_, rfl⟩
  rw [← hB] at hb
  have HBX : Hid (CfgAt W B c) := hb
  rw [← hC] at hW ⊢
  have HOX : Hid (w.heap.size = B) := hB.symm
  have HLX : Hid (Below w.heap.size w W) := bel
  have HWX : Hid (w.alloc (.cells CX 26) = W) := hW.symm
  clear hb hW hB hC bel
  have c20 := HBX.out.c20
  have c21 := HBX.out.c21
  have c22 := HBX.out.c22
  have c23 := HBX.out.c23
  have c24 := HBX.out.c24
  go_enter Tryd.func30, Tryd.ntmps30
  go_upto_region 1 with fail
  rw [HOX.out, HWX.out]
  go_wp2_with (first | (refine wpList_build5 (.tmp 7) (.tmp 9) (.tmp 11) (.tmp 13) (.tmp 15) rfl c rfl rfl rfl rfl rfl rfl ?_))
  clear c20 c21 c22 c23 c24
  go_loopw [4, 17] (fun _ ix wr => ∃ i : Nat, ix = .int .i64 i ∧ i ≤ 5 ∧ Hid (wr = W ∧ ∀ j, j < i → inR (tm c j) 1 1048576 = true)) (fun _ ix _ => 5 - (intOf ix).toNat)
  case atStart => exact ⟨0, rfl, by omega, rfl, fun j h => by omega⟩
  case round =>
    obtain ⟨i, rfl, hi, HR⟩ := hrel
    obtain rfl := HR.out.1
    by_cases hlt : i < 5
    · have k1 : (i : Int) < 5 := by omega
      have k0 : (0 : Int) ≤ (i : Int) := by omega
      have k2 : ((i : Int)).toNat = i := by omega
      have wi : IntKind.i64.wrap ((i : Int) + 1) = (i : Int) + 1 := by rw [IntKind.wrap_i64]; omega
      have HI : Hid (i < 5) := hlt
      have QW : Hid _ := within_any (tm c i) 1 1048576 wr
      obtain ⟨b, hb⟩ : ∃ b, inR (tm c i) 1 1048576 = b := ⟨_, rfl⟩
      rw [hb] at QW
      have HBB : Hid (inR (tm c i) 1 1048576 = b) := hb
      clear hb hi hlt
      go_wp2_with (first | (refine wpList_index_t (.tmp 16) (.tmp 17) rfl c i HI.out rfl rfl rfl ?_))
      refine Calls.mono QW.out ?_
      rintro e1 w1 ⟨rfl, rfl⟩
      clear QW
      cases b with
      | false =>
        go_wp2_with fail
        go_ret
        exact ⟨by unfold cfB; rw [agB_no HI.out HBB.out]; rfl, HLX.out⟩
      | true =>
        go_wp2_with fail
        go_roundw
        case rel => exact ⟨i + 1, by first | rfl | go_num, by have := HI.out; omega, (by first | rfl | trivial), fun j h => by
          by_cases e : j = i
          · rw [e]; exact HBB.out
          · exact HR.out.2 j (by omega)⟩
        case measure => have := HI.out; first | (simp only [intOf]; omega) | go_num | omega
    · have k1 : ¬ (i : Int) < 5 := by omega
      have HAG : Hid (agB c = true) := agB_all (fun j hj => HR.out.2 j (by omega))
      have hi5 : i = 5 := by omega
      clear hi hlt HR
      subst hi5
      have QC : Hid _ := class_any c.oV c.o wr HC.out.1 (HC.out.2.old HLX.out)
      obtain ⟨kl, hkl⟩ : ∃ kl, clsA c.oV c.o = kl := ⟨_, rfl⟩
      rw [hkl] at QC
      go_wp2_with (first | (refine wpList_mid_ipr (.tmp 24) rfl B 1 c.oV c.o rfl HBX.out.out rfl ?_))
      refine Calls.mono QC.out ?_
      rintro e1 w1 ⟨rfl, b1⟩
      have H1 : Hid (CfgAt w1 B c ∧ Below w.heap.size w w1) := ⟨HBX.out.below b1, bthen HLX.out b1⟩
      clear b1 QC
      have c0 := H1.out.1.c0
      have c1 := H1.out.1.c1
      have c18 := H1.out.1.c18
      have c19 := H1.out.1.c19
      have QW : Hid _ := within_any c.mx 1 4096 w1
      obtain ⟨b1, hb1⟩ : ∃ b, inR c.mx 1 4096 = b := ⟨_, rfl⟩
      rw [hb1] at QW
      obtain ⟨b2, hb2⟩ : ∃ b, (c.oV == 4) = b := ⟨_, rfl⟩
      obtain ⟨b3, hb3⟩ : ∃ b, (kl == 7) = b := ⟨_, rfl⟩
      obtain ⟨b4, hb4⟩ : ∃ b, (kl == 4) = b := ⟨_, rfl⟩
      obtain ⟨b5, hb5⟩ : ∃ b, decide (1 ≤ c.lo) = b := ⟨_, rfl⟩
      obtain ⟨b6, hb6⟩ : ∃ b, decide (c.lo ≤ c.hi) = b := ⟨_, rfl⟩
      obtain ⟨b7, hb7⟩ : ∃ b, decide (c.hi ≤ 65535) = b := ⟨_, rfl⟩
      have HT : Hid (cfB c = (b1 && b2 && (b3 || b4) && b5 && b6 && b7)) := by show _ = _; unfold cfB; rw [HAG.out, hb1, hb2, hkl, hb3, hb4, hb5, hb6, hb7, Bool.true_and]
      clear hb1 hkl
      go_wp2_with fail
      refine Calls.mono QW.out ?_
      rintro e2 w2 ⟨rfl, rfl⟩
      clear QW
      cases b1 with
      | false =>
        go_wp2_with fail
        go_ret
        exact ⟨by rw [HT.out]; rfl, H1.out.2⟩
      | true =>
        cases b2 with
        | false =>
          go_wp2_with fail
          go_ret
          exact ⟨by rw [HT.out]; rfl, H1.out.2⟩
        | true =>
          cases b3 with
          | true =>
            cases b5 with
            | false =>
              go_wp2_with fail
              go_ret
              exact ⟨by rw [HT.out]; rfl, H1.out.2⟩
            | true =>
              cases b6 with
              | false =>
                go_wp2_with fail
                go_ret
                exact ⟨by rw [HT.out]; rfl, H1.out.2⟩
              | true =>
                go_wp2_with fail
                go_ret
                exact ⟨by rw [HT.out]; rfl, H1.out.2⟩
          | false =>
            cases b4 with
            | false =>
              go_wp2_with fail
              go_ret
              exact ⟨by rw [HT.out]; rfl, H1.out.2⟩
            | true =>
              cases b5 with
              | false =>
                go_wp2_with fail
                go_ret
                exact ⟨by rw [HT.out]; rfl, H1.out.2⟩
              | true =>
                cases b6 with
                | false =>
                  go_wp2_with fail
                  go_ret
                  exact ⟨by rw [HT.out]; rfl, H1.out.2⟩
                | true =>
                  go_wp2_with fail
                  go_ret
                  exact ⟨by rw [HT.out]; rfl, H1.out.2⟩
theorem run_buildtbl (c : CF) (M N : Nat) (w : World) : (Instr.build 65 #[(0, .agg (cfC c)), (1, .map (some M)), (2, .map (some N))]).run Tryd.prog w = .ok (.agg (tbC c M N)) w := by kernel_rfl
theorem wpList_build_tbl {ops : Array Oper} {rest : List Oper} {o : Oper} {a : Act} {w : World} {Q : Exit → Act → World → Prop} (x y z : Operand) (ho : o.op = .build 65 #[(0, x), (1, y), (2, z)]) (c : CF) (M N : Nat) (hx : a.eval x = .agg (cfC c)) (hy : a.eval y = .map (some M)) (hz : a.eval z = .map (some N)) (hw : Region.wanted o (yielded ops a.tmps) = true)
    (h : wpList Tryd.prog ops Q rest (a.put o.dst (.agg (tbC c M N))) w) : wpList Tryd.prog ops Q (o :: rest) a w := by
  refine wpList_step fun K hK => ?_
  rw [if_pos hw]
  have hrun : (execOp a.eval o).run Tryd.prog w = .ok (.value (.agg (tbC c M N))) w := by
    obtain ⟨dst, op, type, pos, after, guard⟩ := o
    simp only at ho
    subst ho
    simp only [execOp, Sem.run_bind, List.map_toArray, List.map_cons, List.map_nil, hx, hy, hz, run_buildtbl c M N w, Result.andThen_ok]
    rfl
  unfold Oper.wp
  rw [hrun]
  exact hK _ _ h
set_option maxHeartbeats 1600000 in
set_option maxRecDepth 100000 in
theorem new_any (c : CF) (w : World) (ho : ∀ i, i < 16 → c.o i < 256) (hs : Spe8 w) : Calls Tryd.prog 16 #[.agg (cfC c)] w fun e w' => Below w.heap.size w w' ∧ ((cfB c = true ∧ ∃ t M N, e = .returned (.tuple #[.pointer (some ⟨t, 0, none⟩), .int .i64 0]) ∧ TA w' t M N c [] ∧ w.heap.size ≤ t ∧ w.heap.size ≤ M ∧ w.heap.size ≤ N) ∨ (cfB c = false ∧ e = .returned (.tuple #[.pointer none, .int .i64 177]))) := by
  have hmm := @run_makeMap Tryd.prog
  have HC : Hid ((∀ i, i < 16 → c.o i < 256) ∧ Spe8 w) := ⟨ho, hs⟩
  clear ho hs
  have hb := cfg_new w c
  have bel : Below w.heap.size w (w.alloc (.cells (cfC c) 26)) := (Below.refl _ _).alloc (Nat.le_refl _) _
  obtain ⟨CX, hC⟩ : ∃ C, C = cfC c := ⟨_, rfl⟩
  obtain ⟨W, hW⟩ : ∃ W, W = w.alloc (.cells (cfC c) 26) := ⟨_, rfl⟩
  rw [← hW] at hb bel
  have HSZX : Hid (W.heap.size = w.heap.size + 1) := by show _ = _; rw [hW, World.size_alloc]
  obtain ⟨B, hB⟩ : ∃ B, B = w.heap.size := ⟨_, rfl⟩
  rw [← hB] at hb
  have HBX : Hid (CfgAt W B c) := hb
  rw [← hC] at hW ⊢
  have HOX : Hid (w.heap.size = B) := hB.symm
  have HLX : Hid (Below w.heap.size w W) := bel
  have HWX : Hid (w.alloc (.cells CX 26) = W) := hW.symm
  clear hb hW hB hC bel
  have QC : Hid _ := mayBe_any c W HC.out.1 (HC.out.2.old HLX.out)
  obtain ⟨b, hbb⟩ : ∃ b, cfB c = b := ⟨_, rfl⟩
  rw [hbb] at QC
  have HBB : Hid (cfB c = b) := hbb
  clear hbb
  go_enter Tryd.func16, Tryd.ntmps16
  go_upto_region 1 with fail
  rw [HOX.out, HWX.out]
  go_wp2_with (first | (refine wpList_load_cfg (.tmp 1) rfl B c rfl HBX.out rfl ?_))
  refine Calls.mono QC.out ?_
  rintro e w1 ⟨rfl, b1⟩
  have H1 : Hid (CfgAt w1 B c ∧ Below w.heap.size w w1) := ⟨HBX.out.below b1, bthen HLX.out b1⟩
  clear b1 QC
  cases b with
  | false =>
    go_wp2_with fail
    go_ret2
    exact ⟨H1.out.2, .inr ⟨HBB.out, rfl⟩⟩
  | true =>
    go_wp2_with (first | (refine wpList_load_cfg (.tmp 1) rfl B c rfl H1.out.1 rfl ?_) | (refine wpList_build_tbl (.tmp 7) (.tmp 8) (.tmp 9) rfl c w1.heap.size (w1.heap.size + 1) rfl rfl rfl rfl ?_))
    go_ret2
    obtain ⟨M, hM⟩ : ∃ M, M = w1.heap.size := ⟨_, rfl⟩
    obtain ⟨u1, hu1⟩ : ∃ u, u = w1.alloc (.map #[] 0) := ⟨_, rfl⟩
    obtain ⟨u2, hu2⟩ : ∃ u, u = u1.alloc (.map #[] 0) := ⟨_, rfl⟩
    obtain ⟨u3, hu3⟩ : ∃ u, u = u2.alloc (.cells (tbC c M (M + 1)) 65) := ⟨_, rfl⟩
    have s1 : u1.heap.size = M + 1 := by rw [hu1, World.size_alloc, hM]
    have s2 : u2.heap.size = M + 2 := by rw [hu2, World.size_alloc, s1]
    have hA : u3.ownsMap Tryd.prog 34 anyE M 0 (.map []) := by
      rw [hu3, hu2, hu1, hM]
      exact ((World.ownsMap_made w1 _ _ _).alloc _).alloc _
    have hB : u3.ownsMap Tryd.prog 87 anyE (M + 1) 0 (.map []) := by
      rw [hu3, hu2, ← s1]
      exact (World.ownsMap_made u1 _ _ _).alloc _
    have hT : TblAt u3 (M + 2) c M (M + 1) := by
      rw [hu3, ← s2]
      exact heap_alloc_new u2 _
    have b1 : Below w1.heap.size w1 u1 := by rw [hu1]; exact (Below.refl _ _).alloc (Nat.le_refl _) _
    have b2 : Below u1.heap.size u1 u2 := by rw [hu2]; exact (Below.refl _ _).alloc (Nat.le_refl _) _
    have b3 : Below u2.heap.size u2 u3 := by rw [hu3]; exact (Below.refl _ _).alloc (Nat.le_refl _) _
    have hsz := H1.out.2.size
    rw [← hM, ← hu1, ← hu2, ← hu3]
    refine ⟨bthen (bthen (bthen H1.out.2 b1) b2) b3, .inl ⟨HBB.out, M + 2, M, M + 1, by rw [← s2]; rfl, ⟨hT, ⟨.map [], hA, rfl, fun p l _ => ⟨rfl, rfl⟩, List.Pairwise.nil, (fun r hr => by cases hr), (fun l hl => by cases hl)⟩, ⟨.map [], hB, rfl, fun p l _ => ⟨rfl, rfl⟩, List.Pairwise.nil, (fun r hr => by cases hr), (fun l hl => by cases hl)⟩, (fun e he => by cases he), List.Pairwise.nil, by omega⟩, by omega, by omega, by omega⟩⟩
end Go.Proofs.YtclpeepnngegaaaDoor
