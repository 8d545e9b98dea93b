/-
  A neighbour's message as a value; PutND and the document's at the values of the statements' firsts.
-/
import Derived.Test.YtijipfciimcnpaaDoorI8Nd0
namespace Go.Proofs.YtijipfciimcnpaaDoor
open Go.RowKit
open I8 (M8)

def ndC (k V : Int) (x : Nat → Nat) (r s o h : Bool) (m : Nat → Nat) : Array Value := #[.int .i64 k, .int .i64 V, .int .u8 (x 0 : Nat), .int .u8 (x 1 : Nat), .int .u8 (x 2 : Nat), .int .u8 (x 3 : Nat), .int .u8 (x 4 : Nat), .int .u8 (x 5 : Nat), .int .u8 (x 6 : Nat), .int .u8 (x 7 : Nat), .int .u8 (x 8 : Nat), .int .u8 (x 9 : Nat), .int .u8 (x 10 : Nat), .int .u8 (x 11 : Nat), .int .u8 (x 12 : Nat), .int .u8 (x 13 : Nat), .int .u8 (x 14 : Nat), .int .u8 (x 15 : Nat), .bool r, .bool s, .bool o, .bool h, .int .u8 (m 0 : Nat), .int .u8 (m 1 : Nat), .int .u8 (m 2 : Nat), .int .u8 (m 3 : Nat), .int .u8 (m 4 : Nat), .int .u8 (m 5 : Nat)]
def macC (m : Nat → Nat) : Array Value := #[.int .u8 (m 0 : Nat), .int .u8 (m 1 : Nat), .int .u8 (m 2 : Nat), .int .u8 (m 3 : Nat), .int .u8 (m 4 : Nat), .int .u8 (m 5 : Nat)]
theorem Tryd.sizeNd : (Tryd.prog.info? 28).map (·.size) = some 28 := by kernel_rfl
theorem Tryd.sizeMac : (Tryd.prog.info? 26).map (·.size) = some 6 := by kernel_rfl
def NdAt (w : World) (O : Nat) (C : Array Value) : Prop := w.heap[O]? = some (.cells C 28 (0, 0))
theorem NdAt.lt {w : World} {O : Nat} {C : Array Value} (k : NdAt w O C) : O < w.heap.size := (Array.getElem?_eq_some_iff.1 k).1
theorem NdAt.below {w w' : World} {O : Nat} {C : Array Value} (k : NdAt w O C) (h : Below w.heap.size w w') : NdAt w' O C := (h.block O k.lt).trans k
theorem NdAt.ch {S : Nat → Prop} {w w' : World} {O : Nat} {C : Array Value} (k : NdAt w O C) (h : Ch S w w') (hS : ¬ S O) : NdAt w' O C := (h.block O k.lt hS).trans k
theorem NdAt.cell {w : World} {O : Nat} {C : Array Value} (k : NdAt w O C) (i : Nat) : w.cell? ⟨O, i, none⟩ = C[i]? := by unfold NdAt at k; simp [World.cell?, k]
theorem ndAt_new (w : World) (C : Array Value) : NdAt (w.alloc (.cells C 28)) w.heap.size C := heap_alloc_new _ _
theorem yields_bool {ops : Array Oper} {o : Oper} {a : Act} {S : World → Prop} (x : Operand) (ho : o.op = .load 4 x) (p : Addr) (u : Value) (hx : a.eval x = .pointer (some p)) (hw : Region.wanted o (yielded ops a.tmps) = true) (hS : ∀ w, S w → w.cell? p = some u) : YieldsIf Tryd.prog ops S o u a := by
  refine .inl ⟨hw, fun w hb => ?_⟩
  have hc := hS w hb
  have hu := Tryd.underlying4
  obtain ⟨dst, op, type, pos, after, guard⟩ := o
  simp only at ho
  subst ho
  simp only [execOp, Sem.run_bind, Sem.run_pure]
  rw [hx]
  simp [Instr.loadAt, go_sem, hc]
theorem ndBit_any (b : Bool) (v : Int) (w : World) : Calls Tryd.prog 37 #[.bool b, .int .i64 v] w fun e w' => e = .returned (.int .i64 (if b then v else 0)) ∧ w = w' := by
  cases b
  · exact ndBit_no v w
  · go_enter Tryd.func37, Tryd.ntmps37
    go_wp2
    go_ret
    exact ⟨rfl, rfl⟩
/-- firsts' own -/
def mac1 : Nat → Nat := fun i => if i = 0 then 1 else 0
def ndD : Array Value := ndC 1 4 (fun _ => 0) false false false false mac1
def same6 (x y : Nat → Nat) : Bool := decide (x 0 = y 0 ∧ x 1 = y 1 ∧ x 2 = y 2 ∧ x 3 = y 3 ∧ x 4 = y 4 ∧ x 5 = y 5)
set_option maxHeartbeats 1600000 in
set_option maxRecDepth 100000 in
theorem eq6 (x y : Nat → Nat) (w : World) : (Op.equalIn 10000 26 (.agg (macC x)) (.agg (macC y))).run Tryd.prog w = .ok (same6 x y) w := by
  have u5 := Tryd.underlying5
  have a5 := Tryd.isAgg5
  have z5 := Tryd.sizeOf5
  rw [show (10000 : Nat) = 9999 + 1 from rfl, Op.equalIn]
  unfold macC
  simp only [Sem.run_bind, run_underlying Tryd.underlying26, Result.andThen_ok]
  simp only [Std.Legacy.Range.forIn_eq_forIn_range', Std.Legacy.Range.size, Nat.sub_zero, Nat.add_sub_cancel, Nat.div_one, List.range'_succ, List.range'_zero, List.forIn_cons, List.forIn_nil]
  go_simp
  unfold same6
  (repeat' split) <;> simp_all <;> omega
theorem Tryd.macGuard : Tryd.prog.eqGuardType Tryd.prog.depth 26 = false := by kernel_rfl
theorem wpList_load_mac {ops : Array Oper} {rest : List Oper} {o : Oper} {a : Act} {w : World} {Q : Exit → Act → World → Prop} (x : Operand) (ho : o.op = .load 26 x) (O off : Nat) (y : Nat → Nat) (hx : a.eval x = .pointer (some ⟨O, off, none⟩)) (hb : w.rangeAt O off (macC y).toList)
    (hw : Region.wanted o (yielded ops a.tmps) = true) (h : wpList Tryd.prog ops Q rest (a.put o.dst (.agg (macC y))) w) : wpList Tryd.prog ops Q (o :: rest) a w := by
  refine wpList_step fun K hK => ?_
  rw [if_pos hw]
  exact wp_load_mid 26 x ho O off hx (macC y).toList _ hb Tryd.underlying26 rfl Tryd.sizeMac (hK _ _ h)
theorem wpList_neq_mac {ops : Array Oper} {rest : List Oper} {o : Oper} {a : Act} {w : World} {Q : Exit → Act → World → Prop} (X Y : Operand) (ho : o.op = .binOp .neq 26 X Y 26) (x y : Nat → Nat) (hx : a.eval X = .agg (macC x)) (hy : a.eval Y = .agg (macC y))
    (hw : Region.wanted o (yielded ops a.tmps) = true) (h : wpList Tryd.prog ops Q rest (a.put o.dst (.bool (!same6 x y))) w) : wpList Tryd.prog ops Q (o :: rest) a w := by
  refine wpList_step fun K hK => ?_
  rw [if_pos hw]
  have hrun : (execOp a.eval o).run Tryd.prog w = .ok (.value (.bool (!same6 x y))) w := by
    obtain ⟨dst, op, type, pos, after, guard⟩ := o
    simp only at ho
    subst ho
    simp only [execOp, Sem.run_bind, Sem.run_pure, hx, hy, run_eqGuard_agg w .neq 26 _ _ _ _ Tryd.macGuard, Result.andThen_ok, run_neq_struct, eq6]
  unfold Oper.wp
  rw [hrun]
  exact hK _ _ h
set_option maxHeartbeats 3200000 in
set_option maxRecDepth 100000 in
theorem icPutND_d (w : World) (hd : Dis8 w) : Calls Tryd.prog 9 #[.agg ndD] w fun e w' => e = .returned (.tuple #[.agg (mC m8z none 0 0), .int .i64 1]) ∧ Below w.heap.size w w' := by
  obtain ⟨N, hN⟩ : ∃ N, N = ndD := ⟨_, rfl⟩
  have hn := ndAt_new w N
  have hr := mAt_new (w.alloc (.cells N 28)) m8z none 0 0
  rw [World.size_alloc] at hr
  have bel : Below w.heap.size w ((w.alloc (.cells N 28)).alloc (.cells (mC m8z none 0 0) 31)) := ((Below.refl _ _).alloc (Nat.le_refl _) _).alloc (by simp) _
  have hn2 := hn.below ((Below.refl _ _).alloc (Nat.le_refl _) (.cells (mC m8z none 0 0) 31))
  obtain ⟨W, hW⟩ : ∃ W, W = (w.alloc (.cells N 28)).alloc (.cells #[.int .i64 0, .int .i64 0, .int .i64 0, .int .i64 0, .slice none 0 0] 31) := ⟨_, rfl⟩
  have hW2 : W = (w.alloc (.cells N 28)).alloc (.cells (mC m8z none 0 0) 31) := hW
  rw [← hW2] at hr bel hn2
  obtain ⟨B, hB⟩ : ∃ B, B = w.heap.size := ⟨_, rfl⟩
  rw [← hB] at hr hn2
  have HB : Hid (w.heap.size = B) := hB.symm
  have HW : Hid ((w.alloc (.cells N 28)).alloc (.cells #[.int .i64 0, .int .i64 0, .int .i64 0, .int .i64 0, .slice none 0 0] 31) = W) := hW.symm
  have HR : Hid (MAt W (B + 1) m8z none 0 0) := hr
  have HND : Hid (NdAt W B ndD) := by rw [← hN]; exact hn2
  have k0 : W.cell? ⟨B, 0, none⟩ = some (.int .i64 1) := HND.out.cell 0
  have QD : Hid _ := disFor_any 1 W (hd.old bel)
  rw [← hN]
  clear hd hn hr hn2 hW hW2 hB hN
  go_enter Tryd.func9, Tryd.ntmps9
  go_upto_region 1 with fail
  rw [HB.out, HW.out]
  go_wp2_with fail
  refine Calls.mono QD.out ?_
  rintro e w1 ⟨rfl, hb1⟩
  have bel1 := bthen bel hb1
  have hb2 : Below w1.heap.size w1 (w1.alloc (.cells #[.int .i64 1, .int .i64 135, .int .i64 1] 85)) := (Below.refl _ _).alloc (Nat.le_refl _) _
  have HR2 : Hid (MAt (w1.alloc (.cells #[.int .i64 1, .int .i64 135, .int .i64 1] 85)) (B + 1) m8z none 0 0) := (HR.out.below hb1).below hb2
  have HND2 : Hid (NdAt (w1.alloc (.cells #[.int .i64 1, .int .i64 135, .int .i64 1] 85)) B ndD) := (HND.out.below hb1).below hb2
  have bel2 := bthen bel1 hb2
  have ed : diOf 1 = #[.int .i64 1, .int .i64 135, .int .i64 1] := rfl
  have ek : isK 1 = true := rfl
  rw [ed, ek]
  clear hb1 QD HR HND k0 hb2 ed ek
  go_upto_region 2 with fail
  obtain ⟨w2, hw2⟩ : ∃ w2, w2 = w1.alloc (.cells #[.int .i64 1, .int .i64 135, .int .i64 1] 85) := ⟨_, rfl⟩
  rw [← hw2] at HR2 HND2 bel2 ⊢
  clear hw2
  refine MixH.start (fun A => Below w2.heap.size w2 A) (by kernel_rfl) ?_
  obtain ⟨wA, hwA⟩ : ∃ wA, wA = w2.drew := ⟨_, rfl⟩
  have hS : Below w2.heap.size w2 wA := by rw [hwA]; exact (Below.refl _ _).drew
  rw [← hwA]
  clear hwA
  refine MixH.takes [true, false, false, true, false, false, false, true] 9 (by kernel_rfl) (by kernel_rfl) (by decide) (by kernel_rfl) hS (fun K hK => ?_)
  simp only [Mix.pick]
  repeat (go_big_quiet_step (fail))
  refine wpQuiet_nil (hK _ ?_)
  clear hK K
  refine MixH.take 8 1 _ (.bool false) rfl (by kernel_rfl) (by kernel_rfl) (by kernel_rfl) (by kernel_rfl) (yields_bool (.tmp 15) rfl ⟨B, 18, none⟩ _ rfl rfl (fun A hA => (HND2.out.below hA).cell 18)) hS (fun a' ha => ?_)
  simp only [Act.put, List.setIfInBounds_toArray, List.set_cons_succ, List.set_cons_zero] at ha
  subst ha
  refine MixH.take 7 4 _ (.bool false) rfl (by kernel_rfl) (by kernel_rfl) (by kernel_rfl) (by kernel_rfl) (yields_bool (.tmp 18) rfl ⟨B, 19, none⟩ _ rfl rfl (fun A hA => (HND2.out.below hA).cell 19)) hS (fun a' ha => ?_)
  simp only [Act.put, List.setIfInBounds_toArray, List.set_cons_succ, List.set_cons_zero] at ha
  subst ha
  refine MixH.take 6 8 _ (.bool false) rfl (by kernel_rfl) (by kernel_rfl) (by kernel_rfl) (by kernel_rfl) (yields_bool (.tmp 22) rfl ⟨B, 20, none⟩ _ rfl rfl (fun A hA => (HND2.out.below hA).cell 20)) hS (fun a' ha => ?_)
  simp only [Act.put, List.setIfInBounds_toArray, List.set_cons_succ, List.set_cons_zero] at ha
  subst ha
  refine MixH.one [false, false, true] 5 2 _ rfl rfl (by kernel_rfl) (by kernel_rfl) (fun K hK => ?_)
  simp only [Mix.pick]
  go_wp2_with fail
  refine Calls.mono (ndBit_no 2147483648 wA) ?_
  rintro e w4 ⟨rfl, rfl⟩
  go_wp2
  refine ⟨rfl, hK _ _ hS ?_⟩
  clear hK K
  refine MixH.one [false, false, false, false, false, true] 4 5 _ rfl rfl (by kernel_rfl) (by kernel_rfl) (fun K hK => ?_)
  simp only [Mix.pick]
  go_wp2_with fail
  refine Calls.mono (ndBit_no 1073741824 wA) ?_
  rintro e w4 ⟨rfl, rfl⟩
  go_wp2
  refine ⟨rfl, hK _ _ hS ?_⟩
  clear hK K
  refine MixH.takes [false, false, false, false, false, false, true] 3 (by kernel_rfl) (by kernel_rfl) (by decide) (by kernel_rfl) hS (fun K hK => ?_)
  simp only [Mix.pick]
  repeat (go_big_quiet_step (fail))
  refine wpQuiet_nil (hK _ ?_)
  clear hK K
  refine MixH.one [false, false, false, false, false, false, false, false, false, true] 2 9 _ rfl rfl (by kernel_rfl) (by kernel_rfl) (fun K hK => ?_)
  simp only [Mix.pick]
  go_wp2_with fail
  refine Calls.mono (ndBit_no 536870912 wA) ?_
  rintro e w4 ⟨rfl, rfl⟩
  go_wp2
  refine ⟨rfl, hK _ _ hS ?_⟩
  clear hK K
  refine MixH.takes [false, false, false, false, false, false, false, false, false, false, true] 1 (by kernel_rfl) (by kernel_rfl) (by decide) (by kernel_rfl) hS (fun K hK => ?_)
  simp only [Mix.pick]
  repeat (go_big_quiet_step (fail))
  refine wpQuiet_nil (hK _ ?_)
  clear hK K
  refine MixH.takes [false, false, false, false, false, false, false, false, false, false, false, true] 0 (by kernel_rfl) (by kernel_rfl) (by decide) (by kernel_rfl) hS (fun K hK => ?_)
  simp only [Mix.pick]
  repeat (go_big_quiet_step (fail))
  refine wpQuiet_nil (hK _ ?_)
  clear hK K
  refine MixH.done (by kernel_rfl) ?_
  have HN3 := HND2.out.below hS
  have HR3 : Hid (MAt wA (B + 1) m8z none 0 0) := HR2.out.below hS
  have bel3 := bthen bel2 hS
  have c0 : wA.cell? ⟨B, 0, none⟩ = some (.int .i64 1) := HN3.cell 0
  have c21 : wA.cell? ⟨B, 21, none⟩ = some (.bool false) := HN3.cell 21
  have HMAC : Hid (wA.rangeAt B 22 (macC mac1).toList) := by
    intro j v hj
    rw [HN3.cell]
    have hl : j < 6 := (List.getElem?_eq_some_iff.1 hj).1
    have : j = 0 ∨ j = 1 ∨ j = 2 ∨ j = 3 ∨ j = 4 ∨ j = 5 := by omega
    rcases this with rfl | rfl | rfl | rfl | rfl | rfl <;> exact hj
  have e6 : same6 mac1 (fun _ => 0) = false := by decide
  clear HN3 hS HR2 HND2 bel2 bel1
  go_wp2_with (first | (refine wpList_load_mac (.tmp 42) rfl B 22 mac1 rfl HMAC.out rfl ?_) | (refine wpList_neq_mac (.tmp 43) (.tmp 44) rfl mac1 (fun _ => 0) rfl rfl rfl ?_) | (refine wpList_build0 rfl rfl ?_) | (refine wpList_store_m8 (.tmp 2) (.tmp 48) rfl rfl (B + 1) m8z m8z none none 0 0 0 0 rfl rfl HR3.out rfl ?_))
  intro wE hRE kE
  have HRE : Hid (MAt wE (B + 1) m8z none 0 0) := hRE
  have HFE : Hid (Below w.heap.size w wE) := bel3.trans (kE.below (fun q e => by have e' : q = B + 1 := e; have := HB.out; omega) bel3.size)
  clear hRE kE
  go_wp2
  (try simp only [Exit.inBlock, Exit.then])
  refine bodyPost_ret (results_m8_tmp rfl _ _ (B + 1) m8z none 0 0 rfl HRE.out) rfl ?_
  exact ⟨rfl, HFE.out⟩
set_option maxHeartbeats 3200000 in
set_option maxRecDepth 100000 in
theorem rPutND_d (w : World) : Calls Tryd.prog 18 #[.agg ndD] w fun e w' => e = .returned (.tuple #[.agg (mC m8z none 0 0), .int .i64 1]) ∧ Below w.heap.size w w' := by
  obtain ⟨N, hN⟩ : ∃ N, N = ndD := ⟨_, rfl⟩
  have hn := ndAt_new w N
  have hr := mAt_new (w.alloc (.cells N 28)) m8z none 0 0
  have hz := mAt_new ((w.alloc (.cells N 28)).alloc (.cells (mC m8z none 0 0) 31)) m8z none 0 0
  rw [World.size_alloc] at hr
  rw [World.size_alloc, World.size_alloc] at hz
  have b2 : Below ((w.alloc (.cells N 28)).alloc (.cells (mC m8z none 0 0) 31)).heap.size ((w.alloc (.cells N 28)).alloc (.cells (mC m8z none 0 0) 31)) (((w.alloc (.cells N 28)).alloc (.cells (mC m8z none 0 0) 31)).alloc (.cells (mC m8z none 0 0) 31)) := (Below.refl _ _).alloc (Nat.le_refl _) _
  have bel : Below w.heap.size w (((w.alloc (.cells N 28)).alloc (.cells (mC m8z none 0 0) 31)).alloc (.cells (mC m8z none 0 0) 31)) := (((Below.refl _ _).alloc (Nat.le_refl _) _).alloc (by simp) _).alloc (by simp; omega) _
  have hn2 := (hn.below ((Below.refl _ _).alloc (Nat.le_refl _) (.cells (mC m8z none 0 0) 31))).below b2
  have hr2 := hr.below b2
  obtain ⟨W, hW⟩ : ∃ W, W = ((w.alloc (.cells N 28)).alloc (.cells #[.int .i64 0, .int .i64 0, .int .i64 0, .int .i64 0, .slice none 0 0] 31)).alloc (.cells #[.int .i64 0, .int .i64 0, .int .i64 0, .int .i64 0, .slice none 0 0] 31) := ⟨_, rfl⟩
  have hW2 : W = ((w.alloc (.cells N 28)).alloc (.cells (mC m8z none 0 0) 31)).alloc (.cells (mC m8z none 0 0) 31) := hW
  rw [← hW2] at hr2 bel hn2 hz
  obtain ⟨B, hB⟩ : ∃ B, B = w.heap.size := ⟨_, rfl⟩
  rw [← hB] at hr2 hn2 hz
  have HB : Hid (w.heap.size = B) := hB.symm
  have HW : Hid (((w.alloc (.cells N 28)).alloc (.cells #[.int .i64 0, .int .i64 0, .int .i64 0, .int .i64 0, .slice none 0 0] 31)).alloc (.cells #[.int .i64 0, .int .i64 0, .int .i64 0, .int .i64 0, .slice none 0 0] 31) = W) := hW.symm
  have HR : Hid (MAt W (B + 1) m8z none 0 0) := hr2
  have HZ : Hid (MAt W (B + 1 + 1) m8z none 0 0) := hz
  have HN3 : NdAt W B ndD := by rw [← hN]; exact hn2
  have c0 : W.cell? ⟨B, 0, none⟩ = some (.int .i64 1) := HN3.cell 0
  have c18 : W.cell? ⟨B, 18, none⟩ = some (.bool false) := HN3.cell 18
  have c19 : W.cell? ⟨B, 19, none⟩ = some (.bool false) := HN3.cell 19
  have c20 : W.cell? ⟨B, 20, none⟩ = some (.bool false) := HN3.cell 20
  have c21 : W.cell? ⟨B, 21, none⟩ = some (.bool false) := HN3.cell 21
  have HMAC : Hid (W.rangeAt B 22 (macC mac1).toList) := by
    intro j v hj
    rw [HN3.cell]
    have hl : j < 6 := (List.getElem?_eq_some_iff.1 hj).1
    have : j = 0 ∨ j = 1 ∨ j = 2 ∨ j = 3 ∨ j = 4 ∨ j = 5 := by omega
    rcases this with rfl | rfl | rfl | rfl | rfl | rfl <;> exact hj
  have e6 : same6 mac1 (fun _ => 0) = false := by decide
  rw [← hN]
  clear hn hr hr2 hn2 hz b2 hW hW2 hB hN HN3
  go_enter Tryd.func18, Tryd.ntmps18
  go_upto_region 2 with fail
  rw [HB.out, HW.out]
  go_wp2_with (first | (refine wpList_load_mac (.tmp 38) rfl B 22 mac1 rfl HMAC.out rfl ?_) | (refine wpList_neq_mac (.tmp 39) (.tmp 40) rfl mac1 (fun _ => 0) rfl rfl rfl ?_) | (refine wpList_load_m8 (.tmp 4) rfl (B + 1 + 1) m8z none 0 0 rfl HZ.out rfl ?_) | (refine wpList_store_m8 (.tmp 2) (.tmp 44) rfl rfl (B + 1) m8z m8z none none 0 0 0 0 rfl rfl HR.out rfl ?_))
  intro wE hRE kE
  have HRE : Hid (MAt wE (B + 1) m8z none 0 0) := hRE
  have HFE : Hid (Below w.heap.size w wE) := bel.trans (kE.below (fun q e => by have e' : q = B + 1 := e; have := HB.out; omega) bel.size)
  clear hRE kE
  go_wp2
  (try simp only [Exit.inBlock, Exit.then])
  refine bodyPost_ret (results_m8_tmp rfl _ _ (B + 1) m8z none 0 0 rfl HRE.out) rfl ?_
  exact ⟨rfl, HFE.out⟩
end Go.Proofs.YtijipfciimcnpaaDoor
