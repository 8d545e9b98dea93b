/-
  Layer 18: within, shaped, waits, head, heldUp, ready, hasRoom.
-/
import Derived.Test.YtclkcpdghpaboaaQSt
namespace Go.Proofs.Ytclkcpdghpaboaa
open Go.RowKit

theorem yields_int {ops : Array Oper} {o : Oper} {a : Act} {S : World → Prop} (x : Operand) (ho : o.op = .load 3 x) (p : Addr) (u : Value) (hx : a.eval x = .pointer (some p)) (hw : Region.wanted o (yielded ops a.tmps) = true) (hS : ∀ w, S w → w.cell? p = some u) : YieldsIf Try.prog ops S o u a := by
  refine .inl ⟨hw, fun w hb => ?_⟩
  have hc := hS w hb
  have hu := Try.underlying3
  obtain ⟨dst, op, type, pos, after, guard⟩ := o
  simp only at ho
  subst ho
  simp only [execOp, Sem.run_bind, Sem.run_pure]
  rw [hx]
  go_simp
theorem yields_bool {ops : Array Oper} {o : Oper} {a : Act} {S : World → Prop} (x : Operand) (ho : o.op = .load 4 x) (p : Addr) (u : Value) (hx : a.eval x = .pointer (some p)) (hw : Region.wanted o (yielded ops a.tmps) = true) (hS : ∀ w, S w → w.cell? p = some u) : YieldsIf Try.prog ops S o u a := by
  refine .inl ⟨hw, fun w hb => ?_⟩
  have hc := hS w hb
  have hu := Try.underlying4
  obtain ⟨dst, op, type, pos, after, guard⟩ := o
  simp only at ho
  subst ho
  simp only [execOp, Sem.run_bind, Sem.run_pure]
  rw [hx]
  go_simp
theorem yields_its {ops : Array Oper} {o : Oper} {a : Act} {S : World → Prop} (x : Operand) (ho : o.op = .load 94 x) (p : Addr) (u : Value) (hx : a.eval x = .pointer (some p)) (hw : Region.wanted o (yielded ops a.tmps) = true) (hS : ∀ w, S w → w.cell? p = some u) : YieldsIf Try.prog ops S o u a := by
  refine .inl ⟨hw, fun w hb => ?_⟩
  have hc := hS w hb
  have hu := Try.underlying94
  obtain ⟨dst, op, type, pos, after, guard⟩ := o
  simp only at ho
  subst ho
  simp only [execOp, Sem.run_bind, Sem.run_pure]
  rw [hx]
  go_simp
theorem yields_cls {ops : Array Oper} {o : Oper} {a : Act} {S : World → Prop} (x : Operand) (ho : o.op = .load 99 x) (p : Addr) (u : Value) (hx : a.eval x = .pointer (some p)) (hw : Region.wanted o (yielded ops a.tmps) = true) (hS : ∀ w, S w → w.cell? p = some u) : YieldsIf Try.prog ops S o u a := by
  refine .inl ⟨hw, fun w hb => ?_⟩
  have hc := hS w hb
  have hu := Try.underlying99
  obtain ⟨dst, op, type, pos, after, guard⟩ := o
  simp only at ho
  subst ho
  simp only [execOp, Sem.run_bind, Sem.run_pure]
  rw [hx]
  go_simp
theorem run_f0 (x : Int × Int) (w : World) : (Instr.field 119 (.agg (itA x)) 0).run Try.prog w = .ok (.int .i64 x.1) w := by kernel_rfl
theorem yields_f0 {ops : Array Oper} {o : Oper} {a : Act} {S : World → Prop} (X : Operand) (ho : o.op = .field 119 X 0) (x : Int × Int) (hx : a.eval X = .agg (itA x)) (hw : Region.wanted o (yielded ops a.tmps) = true) : YieldsIf Try.prog ops S o (.int .i64 x.1) a := by
  refine .inl ⟨hw, fun w _ => ?_⟩
  obtain ⟨dst, op, type, pos, after, guard⟩ := o
  simp only at ho
  subst ho
  simp only [execOp, Sem.run_bind, hx, run_f0 x w, Result.andThen_ok]
  rfl
theorem wpList_f0 {ops : Array Oper} {rest : List Oper} {o : Oper} {a : Act} {w : World} {Q : Exit → Act → World → Prop} (X : Operand) (ho : o.op = .field 119 X 0) (x : Int × Int) (hx : a.eval X = .agg (itA x)) (hw : Region.wanted o (yielded ops a.tmps) = true)
    (h : wpList Try.prog ops Q rest (a.put o.dst (.int .i64 x.1)) w) : wpList Try.prog ops Q (o :: rest) a w := by
  refine wpList_step fun K hK => ?_
  rw [if_pos hw]
  have hrun : (execOp a.eval o).run Try.prog w = .ok (.value (.int .i64 x.1)) w := by
    obtain ⟨dst, op, type, pos, after, guard⟩ := o
    simp only at ho
    subst ho
    simp only [execOp, Sem.run_bind, hx, run_f0 x w, Result.andThen_ok]
    rfl
  unfold Oper.wp
  rw [hrun]
  exact hK _ _ h
theorem run_f1 (x : Int × Int) (w : World) : (Instr.field 119 (.agg (itA x)) 1).run Try.prog w = .ok (.int .i64 x.2) w := by kernel_rfl
theorem yields_f1 {ops : Array Oper} {o : Oper} {a : Act} {S : World → Prop} (X : Operand) (ho : o.op = .field 119 X 1) (x : Int × Int) (hx : a.eval X = .agg (itA x)) (hw : Region.wanted o (yielded ops a.tmps) = true) : YieldsIf Try.prog ops S o (.int .i64 x.2) a := by
  refine .inl ⟨hw, fun w _ => ?_⟩
  obtain ⟨dst, op, type, pos, after, guard⟩ := o
  simp only at ho
  subst ho
  simp only [execOp, Sem.run_bind, hx, run_f1 x w, Result.andThen_ok]
  rfl
theorem wpList_f1 {ops : Array Oper} {rest : List Oper} {o : Oper} {a : Act} {w : World} {Q : Exit → Act → World → Prop} (X : Operand) (ho : o.op = .field 119 X 1) (x : Int × Int) (hx : a.eval X = .agg (itA x)) (hw : Region.wanted o (yielded ops a.tmps) = true)
    (h : wpList Try.prog ops Q rest (a.put o.dst (.int .i64 x.2)) w) : wpList Try.prog ops Q (o :: rest) a w := by
  refine wpList_step fun K hK => ?_
  rw [if_pos hw]
  have hrun : (execOp a.eval o).run Try.prog w = .ok (.value (.int .i64 x.2)) w := by
    obtain ⟨dst, op, type, pos, after, guard⟩ := o
    simp only at ho
    subst ho
    simp only [execOp, Sem.run_bind, hx, run_f1 x w, Result.andThen_ok]
    rfl
  unfold Oper.wp
  rw [hrun]
  exact hK _ _ h

theorem yields_min {ops : Array Oper} {o : Oper} {a : Act} {S : World → Prop} (x y : Operand) (ts : Array TypeId) (ho : o.op = .call { callee := .builtin .min, args := #[x, y], argTypes := ts }) (p q r : Int) (hr : r = min p q) (hx : a.eval x = .int .i64 p) (hy : a.eval y = .int .i64 q) (hw : Region.wanted o (yielded ops a.tmps) = true) : YieldsIf Try.prog ops S o (.int .i64 r) a := by
  refine .inl ⟨hw, fun w hb => ?_⟩
  obtain ⟨dst, op, type, pos, after, guard⟩ := o
  simp only at ho
  subst ho
  have e : (if q < p then q else p) = r := by split <;> omega
  simp only [execOp, resolve, invoke, builtin, Sem.run_bind, Sem.run_pure, Result.andThen_ok, List.map_toArray, List.map_cons, List.map_nil, hx, hy, run_min_int2, e]
theorem wpList_min {ops : Array Oper} {rest : List Oper} {o : Oper} {a : Act} {w : World} {Q : Exit → Act → World → Prop} (x y : Operand) (ts : Array TypeId) (ho : o.op = .call { callee := .builtin .min, args := #[x, y], argTypes := ts }) (p q r : Int) (hr : r = min p q) (hx : a.eval x = .int .i64 p) (hy : a.eval y = .int .i64 q) (hw : Region.wanted o (yielded ops a.tmps) = true)
    (h : wpList Try.prog ops Q rest (a.put o.dst (.int .i64 r)) w) : wpList Try.prog ops Q (o :: rest) a w := by
  refine wpList_step fun K hK => ?_
  rw [if_pos hw]
  have hrun : (execOp a.eval o).run Try.prog w = .ok (.value (.int .i64 r)) w := by
    obtain ⟨dst, op, type, pos, after, guard⟩ := o
    simp only at ho
    subst ho
    have e : (if q < p then q else p) = r := by split <;> omega
    simp only [execOp, resolve, invoke, builtin, Sem.run_bind, Sem.run_pure, Result.andThen_ok, List.map_toArray, List.map_cons, List.map_nil, hx, hy, run_min_int2, e]
  unfold Oper.wp
  rw [hrun]
  exact hK _ _ h
theorem yields_max {ops : Array Oper} {o : Oper} {a : Act} {S : World → Prop} (x y : Operand) (ts : Array TypeId) (ho : o.op = .call { callee := .builtin .max, args := #[x, y], argTypes := ts }) (p q r : Int) (hr : r = max p q) (hx : a.eval x = .int .i64 p) (hy : a.eval y = .int .i64 q) (hw : Region.wanted o (yielded ops a.tmps) = true) : YieldsIf Try.prog ops S o (.int .i64 r) a := by
  refine .inl ⟨hw, fun w hb => ?_⟩
  obtain ⟨dst, op, type, pos, after, guard⟩ := o
  simp only at ho
  subst ho
  have e : (if q > p then q else p) = r := by split <;> omega
  simp only [execOp, resolve, invoke, builtin, Sem.run_bind, Sem.run_pure, Result.andThen_ok, List.map_toArray, List.map_cons, List.map_nil, hx, hy, run_max_int2, e]
theorem wpList_max {ops : Array Oper} {rest : List Oper} {o : Oper} {a : Act} {w : World} {Q : Exit → Act → World → Prop} (x y : Operand) (ts : Array TypeId) (ho : o.op = .call { callee := .builtin .max, args := #[x, y], argTypes := ts }) (p q r : Int) (hr : r = max p q) (hx : a.eval x = .int .i64 p) (hy : a.eval y = .int .i64 q) (hw : Region.wanted o (yielded ops a.tmps) = true)
    (h : wpList Try.prog ops Q rest (a.put o.dst (.int .i64 r)) w) : wpList Try.prog ops Q (o :: rest) a w := by
  refine wpList_step fun K hK => ?_
  rw [if_pos hw]
  have hrun : (execOp a.eval o).run Try.prog w = .ok (.value (.int .i64 r)) w := by
    obtain ⟨dst, op, type, pos, after, guard⟩ := o
    simp only at ho
    subst ho
    have e : (if q > p then q else p) = r := by split <;> omega
    simp only [execOp, resolve, invoke, builtin, Sem.run_bind, Sem.run_pure, Result.andThen_ok, List.map_toArray, List.map_cons, List.map_nil, hx, hy, run_max_int2, e]
  unfold Oper.wp
  rw [hrun]
  exact hK _ _ h
theorem bthen {a b c : World} (h : Below a.heap.size a b) (k : Below b.heap.size b c) : Below a.heap.size a c := h.trans (k.mono h.size)
theorem QA.cell {w : World} {P G : Nat} {ms : List CM} {t : TN} (h : QA w P G ms t) {i : Nat} {m : CM} (hi : ms[i]? = some m) (k : Nat) {v : Value} (hk : (cmL m)[k]? = some v) : w.cell? ⟨G, i * 10 + k, none⟩ = some v := h.cells hi k v hk
def inB (n lo hi : Int) : Bool := decide (lo ≤ n) && decide (n ≤ hi)
set_option maxHeartbeats 800000 in
theorem within_any (n lo hi : Int) (w : World) : Calls Try.prog 43 #[.int .i64 n, .int .i64 lo, .int .i64 hi] w fun e w' => e = .returned (.bool (inB n lo hi)) ∧ w = w' := by
  unfold inB
  by_cases h1 : lo ≤ n
  · have q1 : decide (lo ≤ n) = true := decide_eq_true h1
    rw [q1]
    go_enter Try.func43, Try.ntmps43
    go_wp2
    go_ret
    exact ⟨rfl, rfl⟩
  · have q1 : decide (lo ≤ n) = false := decide_eq_false h1
    rw [q1]
    go_enter Try.func43, Try.ntmps43
    go_wp2
    go_ret
    exact ⟨rfl, rfl⟩
/-- the head of a line that waits -/
theorem LnOk.head {w : World} {m : CM} (h : LnOk w m) {x : Int × Int} {L : List (Int × Int)} (hL : m.c.L = x :: L) : ∃ g cap, m.v = .slice (some ⟨g, 0, none⟩) m.S.length cap ∧ m.f < m.S.length ∧ w.rangeAt g (m.f * 2) (itL x) ∧ m.S[m.f]? = some x := by
  have hq := h.ql
  rw [hL] at hq
  simp only [List.length_cons] at hq
  have hf : m.f < m.S.length := h.fl.resolve_right (fun e => by omega)
  have ha := h.at' 0 (by rw [hL]; simp)
  rw [hL, Nat.add_zero, Nat.mod_eq_of_lt hf] at ha
  have ha' : m.S[m.f]? = some x := by simpa using ha
  obtain ⟨g, cap, hv, _, _, hr⟩ := h.own.at itL_len m.f x ha'
  exact ⟨g, cap, hv, hf, hr, ha'⟩
theorem held_no {c : CL} (h : ¬ 0 < c.li.ra) : c.held = false := by unfold CL.held; rw [decide_eq_false h]; rfl
theorem held_em {c : CL} (h : c.L = []) : c.held = false := by unfold CL.held wtB; rw [h]; simp
theorem held_hd {c : CL} {x : Int × Int} {L : List (Int × Int)} (h : c.L = x :: L) (hr : 0 < c.li.ra) : c.held = decide (c.tk < x.2) := by unfold CL.held wtB; rw [h, decide_eq_true hr, decide_eq_true (show 0 < (x :: L).length by simp), Bool.true_and, Bool.true_and]; rfl
theorem itA_lit (x : Int × Int) : itA x = #[.int .i64 x.1, .int .i64 x.2] := rfl
section
variable (w : World) (P G : Nat) (ms : List CM) (t : TN) (h : QA w P G ms t) (i : Nat) (m : CM) (hi : ms[i]? = some m)
include h hi
set_option maxHeartbeats 800000 in
theorem shaped_any : Calls Try.prog 66 #[.pointer (some ⟨G, i * 10, none⟩)] w fun e w' => e = .returned (.bool (decide (0 < m.c.li.ra))) ∧ w = w' := by
  have c3 := h.cell hi 3 rfl
  clear h hi
  go_enter Try.func66, Try.ntmps66
  go_wp2
  go_ret
  exact ⟨rfl, rfl⟩
set_option maxHeartbeats 800000 in
theorem waits_any : Calls Try.prog 64 #[.pointer (some ⟨G, i * 10, none⟩)] w fun e w' => e = .returned (.bool (wtB m.c.L)) ∧ w = w' := by
  have c7 := h.cell hi 7 rfl
  obtain ⟨n, hn⟩ : ∃ n, n = m.c.L.length := ⟨_, rfl⟩
  unfold wtB
  rw [← hn] at c7 ⊢
  clear h hi hn
  go_enter Try.func64, Try.ntmps64
  go_wp2
  go_ret
  exact ⟨rfl, rfl⟩
set_option maxHeartbeats 1600000 in
set_option maxRecDepth 100000 in
theorem head_any (x : Int × Int) (L : List (Int × Int)) (hL : m.c.L = x :: L) : Calls Try.prog 65 #[.pointer (some ⟨G, i * 10 + 5, none⟩)] w fun e w' => e = .returned (.agg (itA x)) ∧ Below w.heap.size w w' := by
  have hl := h.ln m (List.mem_of_getElem? hi)
  obtain ⟨g, cap, hv, hf, hr, _⟩ := hl.head hL
  have hQ := h
  have HW0 : Hid (QA w P G ms t) := h
  obtain ⟨Y, hY⟩ : ∃ Y, Y = w.alloc (.cells (itA iz) 119) := ⟨_, rfl⟩
  have bY : Below w.heap.size w Y := by rw [hY]; exact (Below.refl _ _).alloc (Nat.le_refl _) _
  obtain ⟨O, hO⟩ : ∃ O, O = w.heap.size := ⟨_, rfl⟩
  have HNY : Hid (ItmAt Y O iz) := by show ItmAt Y O iz; rw [hY, hO]; exact itm_new w iz
  have HLY : Hid (Below w.heap.size w Y) := bY
  have HEY : Hid (w.alloc (.cells #[.int .i64 0, .int .i64 0] 119) = Y) := hY.symm
  have HOY : Hid (w.heap.size = O) := hO.symm
  clear hY bY hO

  have HQ : Hid (QA Y P G ms t ∧ Y.rangeAt g (m.f * 2) (itL x)) := ⟨hQ.below HLY.out, fun j v hj => by have h1 := hr j v hj; exact (HLY.out.cell (p := ⟨g, m.f * 2 + j, none⟩) (World.block_lt_of_cell? w _ h1)).trans h1⟩
  have HI : Hid (ms[i]? = some m) := hi
  obtain ⟨n, hn⟩ : ∃ n, n = m.S.length := ⟨_, rfl⟩
  obtain ⟨f, hfe⟩ : ∃ f, f = m.f := ⟨_, rfl⟩
  have HV : Hid (m.v = .slice (some ⟨g, 0, none⟩) n cap ∧ m.f = f) := ⟨by rw [hn]; exact hv, hfe.symm⟩
  rw [← hn, ← hfe] at hf
  have nb : n ≤ 8190 := by rw [hn]; exact hl.nb
  have k0 : (0 : Int) ≤ (f : Int) := by omega
  have k1 : (f : Int) < (n : Int) := by omega
  have k2 : ((f : Int)).toNat = f := by omega
  clear h hi hl hr hQ hv hn hfe hL
  go_enter Try.func65, Try.ntmps65
  go_upto_region 1 with fail
  rw [HOY.out, HEY.out]
  refine MixH.start (fun A => QA A P G ms t ∧ A.rangeAt g (m.f * 2) (itL x)) (by kernel_rfl) ?_
  obtain ⟨wA, hwA⟩ : ∃ wA, wA = Y.drew := ⟨_, rfl⟩
  have bdr : Below Y.heap.size Y wA := by rw [hwA]; exact (Below.refl _ _).drew
  have hS : QA wA P G ms t ∧ wA.rangeAt g (m.f * 2) (itL x) := ⟨HQ.out.1.below bdr, by rw [hwA]; exact HQ.out.2⟩
  have HNA : Hid (ItmAt wA O iz ∧ Below w.heap.size w wA) := ⟨HNY.out.below bdr, bthen HLY.out bdr⟩
  rw [← hwA]
  clear hwA bdr
  refine MixH.takes [true, true, true, false, true, true, true] 5 (by kernel_rfl) (by kernel_rfl) (by decide) (by kernel_rfl) hS (fun K hK => ?_)
  simp only [Mix.pick]
  repeat (go_big_quiet_step (fail))
  refine wpQuiet_nil (hK _ ?_)
  clear hK K
  refine MixH.take 4 3 _ (.slice (some ⟨g, 0, none⟩) n cap) rfl (by kernel_rfl) (by kernel_rfl) (by kernel_rfl) (by kernel_rfl) (yields_its (.tmp 5) rfl ⟨G, i * 10 + 5, none⟩ (.slice (some ⟨g, 0, none⟩) n cap) rfl rfl (fun A hA => (hA.1.cell HI.out 5 rfl).trans (by rw [HV.out.1]))) hS (fun a' ha => ?_)
  simp only [Act.put, List.setIfInBounds_toArray, List.set_cons_succ, List.set_cons_zero] at ha
  subst ha
  refine MixH.take 3 7 _ (.int .i64 (f : Int)) rfl (by kernel_rfl) (by kernel_rfl) (by kernel_rfl) (by kernel_rfl) (yields_int (.tmp 9) rfl ⟨G, i * 10 + 6, none⟩ (.int .i64 (f : Int)) rfl rfl (fun A hA => (hA.1.cell HI.out 6 rfl).trans (by rw [HV.out.2]))) hS (fun a' ha => ?_)
  simp only [Act.put, List.setIfInBounds_toArray, List.set_cons_succ, List.set_cons_zero] at ha
  subst ha
  refine MixH.takes [false, false, false, false, false, false, false, false, true] 2 (by kernel_rfl) (by kernel_rfl) (by decide) (by kernel_rfl) hS (fun K hK => ?_)
  simp only [Mix.pick]
  repeat (go_big_quiet_step (fail))
  refine wpQuiet_nil (hK _ ?_)
  clear hK K
  refine MixH.take 1 9 _ (.agg (itA x)) rfl (by kernel_rfl) (by kernel_rfl) (by kernel_rfl) (by kernel_rfl) (yields_itm (.tmp 11) rfl g (f * 2) x rfl rfl (fun A hA => by rw [← HV.out.2]; exact hA.2)) hS (fun a' ha => ?_)
  simp only [Act.put, List.setIfInBounds_toArray, List.set_cons_succ, List.set_cons_zero] at ha
  subst ha
  refine MixH.one [false, false, false, false, false, false, false, false, false, false, true] 0 10 _ rfl rfl (by kernel_rfl) (by kernel_rfl) (fun K hK => ?_)
  simp only [Mix.pick]
  refine wpList_store_itm (.tmp 2) (.tmp 12) rfl rfl O iz x rfl rfl HNA.out.1 rfl ?_
  intro w5 h5 k5
  have hO : ¬ QB P G ms O := fun hq => by have := HQ.out.1.below (Below.refl _ _); have h1 := QA.lt (w := w) (P := P) (G := G) (ms := ms) (t := t) HW0.out O hq; have h2 := HOY.out; omega
  replace hS : QA w5 P G ms t ∧ w5.rangeAt g (m.f * 2) (itL x) := ⟨hS.1.ch k5 (fun q hq e => hO (e ▸ hq)), fun j v hj => k5.cell (hS.2 j v hj) (fun e => hO (.inr (.inr ⟨m, List.mem_of_getElem? HI.out, by rw [HV.out.1]; exact congrArg some e⟩)))⟩
  have HZ : Hid (ItmAt w5 O x ∧ Below w.heap.size w w5) := ⟨h5, HNA.out.2.trans (k5.below (fun q hq => by have := HOY.out; omega) HNA.out.2.size)⟩
  clear h5 k5 hO
  refine ⟨rfl, hK _ _ hS ?_⟩
  clear hK K
  refine MixH.done (by kernel_rfl) ?_
  clear hS
  go_wp2_with fail
  refine bodyPost_ret (results_itm rfl _ _ O _ rfl HZ.out.1) rfl ?_
  exact ⟨rfl, HZ.out.2⟩
set_option maxHeartbeats 1600000 in
set_option maxRecDepth 100000 in
theorem heldUp_any  : Calls Try.prog 73 #[.pointer (some ⟨G, i * 10, none⟩)] w fun e w' => e = .returned (.bool m.c.held) ∧ Below w.heap.size w w' := by
  have HQ : Hid (QA w P G ms t) := h
  have HI : Hid (ms[i]? = some m) := hi
  clear h hi
  go_enter Try.func73, Try.ntmps73
  go_upto_region 1 with fail
  by_cases hr : 0 < m.c.li.ra
  · have HR : Hid (0 < m.c.li.ra) := hr
    have qr : decide (0 < m.c.li.ra) = true := decide_eq_true hr
    clear hr
    cases hL : m.c.L with
    | nil =>
      have HE : Hid (m.c.held = false) := held_em hL
      have HWt : Hid (wtB m.c.L = false) := by show _ = _; rw [hL]; rfl
      clear hL
      refine MixH.start (fun A => QA A P G ms t) (by kernel_rfl) ?_
      obtain ⟨wA, hwA⟩ : ∃ wA, wA = w.drew := ⟨_, rfl⟩
      have bdr : Below w.heap.size w wA := by rw [hwA]; exact (Below.refl _ _).drew
      have hS : QA wA P G ms t := HQ.out.below bdr
      have HA : Hid (Below w.heap.size w wA) := bdr
      rw [← hwA]
      clear hwA bdr
      have Q1 : Hid _ := shaped_any wA P G ms t hS i m HI.out
      rw [qr] at Q1
      have Q4 : Hid _ := waits_any wA P G ms t hS i m HI.out
      rw [HWt.out] at Q4
      refine MixH.takes [true] 18 (by kernel_rfl) (by kernel_rfl) (by decide) (by kernel_rfl) hS (fun K hK => ?_)
      simp only [Mix.pick]
      repeat (go_big_quiet_step (fail))
      refine wpQuiet_nil (hK _ ?_)
      clear hK K
      refine MixH.one [false, true] 17 1 _ rfl rfl (by kernel_rfl) (by kernel_rfl) (fun K hK => ?_)
      simp only [Mix.pick]
      go_wp2_with fail
      refine Calls.mono (Q1.out) ?_
      rintro e1 w1 ⟨rfl, rfl⟩
      skip
      go_wp2_with fail
      refine ⟨rfl, hK _ _ hS ?_⟩
      clear hK K
      refine MixH.takes [false, false, true, true] 15 (by kernel_rfl) (by kernel_rfl) (by decide) (by kernel_rfl) hS (fun K hK => ?_)
      simp only [Mix.pick]
      repeat (go_big_quiet_step (fail))
      refine wpQuiet_nil (hK _ ?_)
      clear hK K
      refine MixH.one [false, false, false, false, true] 14 4 _ rfl rfl (by kernel_rfl) (by kernel_rfl) (fun K hK => ?_)
      simp only [Mix.pick]
      go_wp2_with fail
      refine Calls.mono (Q4.out) ?_
      rintro e2 w2 ⟨rfl, rfl⟩
      skip
      go_wp2_with fail
      refine ⟨rfl, hK _ _ hS ?_⟩
      clear hK K
      refine MixH.takes [false, false, false, false, false, true, true, true, true, true, false, true, true, true] 6 (by kernel_rfl) (by kernel_rfl) (by decide) (by kernel_rfl) hS (fun K hK => ?_)
      simp only [Mix.pick]
      repeat (go_big_quiet_step (fail))
      refine wpQuiet_nil (hK _ ?_)
      clear hK K
      refine MixH.take 5 10 _ (undef) rfl (by kernel_rfl) (by kernel_rfl) (by kernel_rfl) (by kernel_rfl) (.inr ⟨rfl, rfl⟩) hS (fun a' ha => ?_)
      simp only [Act.put, List.setIfInBounds_toArray, List.set_cons_succ, List.set_cons_zero] at ha
      subst ha
      refine MixH.take 4 14 _ (undef) rfl (by kernel_rfl) (by kernel_rfl) (by kernel_rfl) (by kernel_rfl) (.inr ⟨rfl, rfl⟩) hS (fun a' ha => ?_)
      simp only [Act.put, List.setIfInBounds_toArray, List.set_cons_succ, List.set_cons_zero] at ha
      subst ha
      refine MixH.takes [false, false, false, false, false, false, false, false, false, false, false, false, false, false, false, true, true, true, true] 0 (by kernel_rfl) (by kernel_rfl) (by decide) (by kernel_rfl) hS (fun K hK => ?_)
      simp only [Mix.pick]
      repeat (go_big_quiet_step (fail))
      refine wpQuiet_nil (hK _ ?_)
      clear hK K
      refine MixH.done (by kernel_rfl) ?_
      clear hS Q1 Q4
      go_wp2_with fail
      go_ret
      exact ⟨by rw [HE.out]; rfl, HA.out⟩
    | cons x L =>
      have HE : Hid (m.c.held = decide (m.c.tk < x.2)) := held_hd hL HR.out
      have HWt : Hid (wtB m.c.L = true) := by show _ = _; rw [hL]; rfl
      have HL : Hid (m.c.L = x :: L) := hL
      clear hL
      refine MixH.start (fun A => QA A P G ms t) (by kernel_rfl) ?_
      obtain ⟨wA, hwA⟩ : ∃ wA, wA = w.drew := ⟨_, rfl⟩
      have bdr : Below w.heap.size w wA := by rw [hwA]; exact (Below.refl _ _).drew
      have hS : QA wA P G ms t := HQ.out.below bdr
      have HA : Hid (Below w.heap.size w wA) := bdr
      rw [← hwA]
      clear hwA bdr
      have Q1 : Hid _ := shaped_any wA P G ms t hS i m HI.out
      rw [qr] at Q1
      have Q4 : Hid _ := waits_any wA P G ms t hS i m HI.out
      rw [HWt.out] at Q4
      have Q14 : Hid _ := head_any wA P G ms t hS i m HI.out x L HL.out
      refine MixH.takes [true] 18 (by kernel_rfl) (by kernel_rfl) (by decide) (by kernel_rfl) hS (fun K hK => ?_)
      simp only [Mix.pick]
      repeat (go_big_quiet_step (fail))
      refine wpQuiet_nil (hK _ ?_)
      clear hK K
      refine MixH.one [false, true] 17 1 _ rfl rfl (by kernel_rfl) (by kernel_rfl) (fun K hK => ?_)
      simp only [Mix.pick]
      go_wp2_with fail
      refine Calls.mono (Q1.out) ?_
      rintro e1 w1 ⟨rfl, rfl⟩
      skip
      go_wp2_with fail
      refine ⟨rfl, hK _ _ hS ?_⟩
      clear hK K
      refine MixH.takes [false, false, true, true] 15 (by kernel_rfl) (by kernel_rfl) (by decide) (by kernel_rfl) hS (fun K hK => ?_)
      simp only [Mix.pick]
      repeat (go_big_quiet_step (fail))
      refine wpQuiet_nil (hK _ ?_)
      clear hK K
      refine MixH.one [false, false, false, false, true] 14 4 _ rfl rfl (by kernel_rfl) (by kernel_rfl) (fun K hK => ?_)
      simp only [Mix.pick]
      go_wp2_with fail
      refine Calls.mono (Q4.out) ?_
      rintro e2 w2 ⟨rfl, rfl⟩
      skip
      go_wp2_with fail
      refine ⟨rfl, hK _ _ hS ?_⟩
      clear hK K
      refine MixH.takes [false, false, false, false, false, true, true, true, true, true, false, true, true, true] 6 (by kernel_rfl) (by kernel_rfl) (by decide) (by kernel_rfl) hS (fun K hK => ?_)
      simp only [Mix.pick]
      repeat (go_big_quiet_step (fail))
      refine wpQuiet_nil (hK _ ?_)
      clear hK K
      refine MixH.take 5 10 _ (.int .i64 m.c.tk) rfl (by kernel_rfl) (by kernel_rfl) (by kernel_rfl) (by kernel_rfl) (yields_int (.tmp 12) rfl ⟨G, i * 10 + 9, none⟩ (.int .i64 m.c.tk) rfl rfl (fun A hA => hA.cell HI.out 9 rfl)) hS (fun a' ha => ?_)
      simp only [Act.put, List.setIfInBounds_toArray, List.set_cons_succ, List.set_cons_zero] at ha
      subst ha
      refine MixH.one [false, false, false, false, false, false, false, false, false, false, false, false, false, false, true] 4 14 _ rfl rfl (by kernel_rfl) (by kernel_rfl) (fun K hK => ?_)
      simp only [Mix.pick]
      go_wp2_with fail
      refine Calls.mono (Q14.out) ?_
      rintro e3 w3 ⟨rfl, b3⟩
      replace hS : QA w3 P G ms t := hS.below b3
      have HZ : Hid (Below w.heap.size w w3) := bthen HA.out b3
      clear b3
      go_wp2_with fail
      refine ⟨rfl, hK _ _ hS ?_⟩
      clear hK K
      refine MixH.take 3 15 _ (.int .i64 x.2) rfl (by kernel_rfl) (by kernel_rfl) (by kernel_rfl) (by kernel_rfl) (yields_f1 (.tmp 17) rfl x rfl rfl) hS (fun a' ha => ?_)
      simp only [Act.put, List.setIfInBounds_toArray, List.set_cons_succ, List.set_cons_zero] at ha
      subst ha
      refine MixH.takes [false, false, false, false, false, false, false, false, false, false, false, false, false, false, false, false, true, true, true] 0 (by kernel_rfl) (by kernel_rfl) (by decide) (by kernel_rfl) hS (fun K hK => ?_)
      simp only [Mix.pick]
      repeat (go_big_quiet_step (fail))
      refine wpQuiet_nil (hK _ ?_)
      clear hK K
      refine MixH.done (by kernel_rfl) ?_
      clear hS Q1 Q4 Q14
      go_wp2_with fail
      go_ret
      exact ⟨by rw [HE.out]; rfl, HZ.out⟩
  · have HE : Hid (m.c.held = false) := held_no hr
    have qr : decide (0 < m.c.li.ra) = false := decide_eq_false hr
    clear hr
    refine MixH.start (fun A => QA A P G ms t) (by kernel_rfl) ?_
    obtain ⟨wA, hwA⟩ : ∃ wA, wA = w.drew := ⟨_, rfl⟩
    have bdr : Below w.heap.size w wA := by rw [hwA]; exact (Below.refl _ _).drew
    have hS : QA wA P G ms t := HQ.out.below bdr
    have HA : Hid (Below w.heap.size w wA) := bdr
    rw [← hwA]
    clear hwA bdr
    have Q1 : Hid _ := shaped_any wA P G ms t hS i m HI.out
    rw [qr] at Q1
    refine MixH.takes [true] 18 (by kernel_rfl) (by kernel_rfl) (by decide) (by kernel_rfl) hS (fun K hK => ?_)
    simp only [Mix.pick]
    repeat (go_big_quiet_step (fail))
    refine wpQuiet_nil (hK _ ?_)
    clear hK K
    refine MixH.one [false, true] 17 1 _ rfl rfl (by kernel_rfl) (by kernel_rfl) (fun K hK => ?_)
    simp only [Mix.pick]
    go_wp2_with fail
    refine Calls.mono (Q1.out) ?_
    rintro e1 w1 ⟨rfl, rfl⟩
    skip
    go_wp2_with fail
    refine ⟨rfl, hK _ _ hS ?_⟩
    clear hK K
    refine MixH.takes [false, false, true, true] 15 (by kernel_rfl) (by kernel_rfl) (by decide) (by kernel_rfl) hS (fun K hK => ?_)
    simp only [Mix.pick]
    repeat (go_big_quiet_step (fail))
    refine wpQuiet_nil (hK _ ?_)
    clear hK K
    refine MixH.take 14 4 _ (undef) rfl (by kernel_rfl) (by kernel_rfl) (by kernel_rfl) (by kernel_rfl) (.inr ⟨rfl, rfl⟩) hS (fun a' ha => ?_)
    simp only [Act.put, List.setIfInBounds_toArray, List.set_cons_succ, List.set_cons_zero] at ha
    subst ha
    refine MixH.takes [false, false, false, false, false, true, true, true, true, true, false, true, true, true] 6 (by kernel_rfl) (by kernel_rfl) (by decide) (by kernel_rfl) hS (fun K hK => ?_)
    simp only [Mix.pick]
    repeat (go_big_quiet_step (fail))
    refine wpQuiet_nil (hK _ ?_)
    clear hK K
    refine MixH.take 5 10 _ (undef) rfl (by kernel_rfl) (by kernel_rfl) (by kernel_rfl) (by kernel_rfl) (.inr ⟨rfl, rfl⟩) hS (fun a' ha => ?_)
    simp only [Act.put, List.setIfInBounds_toArray, List.set_cons_succ, List.set_cons_zero] at ha
    subst ha
    refine MixH.take 4 14 _ (undef) rfl (by kernel_rfl) (by kernel_rfl) (by kernel_rfl) (by kernel_rfl) (.inr ⟨rfl, rfl⟩) hS (fun a' ha => ?_)
    simp only [Act.put, List.setIfInBounds_toArray, List.set_cons_succ, List.set_cons_zero] at ha
    subst ha
    refine MixH.takes [false, false, false, false, false, false, false, false, false, false, false, false, false, false, false, true, true, true, true] 0 (by kernel_rfl) (by kernel_rfl) (by decide) (by kernel_rfl) hS (fun K hK => ?_)
    simp only [Mix.pick]
    repeat (go_big_quiet_step (fail))
    refine wpQuiet_nil (hK _ ?_)
    clear hK K
    refine MixH.done (by kernel_rfl) ?_
    clear hS Q1
    go_wp2_with fail
    go_ret
    exact ⟨by rw [HE.out]; rfl, HA.out⟩
set_option maxHeartbeats 1600000 in
set_option maxRecDepth 100000 in
theorem ready_any  : Calls Try.prog 72 #[.pointer (some ⟨G, i * 10, none⟩)] w fun e w' => e = .returned (.bool m.c.rdy) ∧ Below w.heap.size w w' := by
  have HI : Hid (ms[i]? = some m) := hi
  have Q1 : Hid _ := waits_any w P G ms t h i m hi
  have Q2 : Hid _ := heldUp_any w P G ms t h i m hi
  obtain ⟨b, hb⟩ : ∃ b, wtB m.c.L = b := ⟨_, rfl⟩
  obtain ⟨d, hd⟩ : ∃ d, m.c.held = d := ⟨_, rfl⟩
  have HR : Hid (m.c.rdy = (b && !d)) := by show _ = _; unfold CL.rdy; rw [hb, hd]
  rw [hb] at Q1
  rw [hd] at Q2
  clear h hi hb hd
  go_enter Try.func72, Try.ntmps72
  go_wp2_with fail
  refine Calls.mono Q1.out ?_
  rintro e1 w1 ⟨rfl, rfl⟩
  cases b with
  | false =>
    go_wp2_with fail
    go_ret
    exact ⟨by rw [HR.out]; rfl, Below.refl _ _⟩
  | true =>
    go_wp2_with fail
    refine Calls.mono Q2.out ?_
    rintro e2 w2 ⟨rfl, b2⟩
    have HB : Hid (Below w.heap.size w w2) := b2
    clear b2
    go_wp2_with fail
    go_ret
    exact ⟨by rw [HR.out]; rfl, HB.out⟩
set_option maxHeartbeats 1600000 in
set_option maxRecDepth 100000 in
theorem hasRoom_any (size : Int) (hby : m.b = szL m.c.L) (hs : 0 ≤ szL m.c.L + size ∧ szL m.c.L + size ≤ 9223372036854775807) : Calls Try.prog 44 #[.pointer (some ⟨G, i * 10, none⟩), .int .i64 size] w fun e w' => e = .returned (.bool (room m.c size)) ∧ Below w.heap.size w w' := by
  have c1 := h.cell hi 1 rfl
  have c2 := h.cell hi 2 rfl
  have c7 := h.cell hi 7 rfl
  have c8 := h.cell hi 8 rfl
  rw [hby] at c8
  obtain ⟨n, hn⟩ : ∃ n, n = m.c.L.length := ⟨_, rfl⟩
  obtain ⟨z, hz⟩ : ∃ z, z = szL m.c.L := ⟨_, rfl⟩
  have HR : Hid (room m.c size = (decide ((n : Int) < m.c.li.it) && decide (z + size ≤ m.c.li.by'))) := by show _ = _; unfold room; rw [← hn, ← hz]
  rw [← hn] at c7
  rw [← hz] at c8 hs
  have wz : IntKind.i64.wrap (z + size) = z + size := by rw [IntKind.wrap_i64]; omega
  clear h hi hn hz hs hby
  by_cases hl : (n : Int) < m.c.li.it
  · have q1 : decide ((n : Int) < m.c.li.it) = true := decide_eq_true hl
    rw [HR.out, q1]
    go_enter Try.func44, Try.ntmps44
    go_wp2
    go_region
    go_wp2
    go_ret
    exact ⟨rfl, (Below.refl _ _).drew⟩

  · have q1 : decide ((n : Int) < m.c.li.it) = false := decide_eq_false hl
    rw [HR.out, q1]
    go_enter Try.func44, Try.ntmps44
    go_wp2
    go_region
    go_wp2
    go_ret
    exact ⟨rfl, (Below.refl _ _).drew⟩
end
end Go.Proofs.Ytclkcpdghpaboaa
