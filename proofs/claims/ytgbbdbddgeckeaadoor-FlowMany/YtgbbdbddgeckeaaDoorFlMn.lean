/-
  Layer 17, FlowMany: asks; the map of ports; the flows in numbers.
-/
import Derived.Test.YtgbbdbddgeckeaaDoorFlBg
namespace Go.Proofs.YtgbbdbddgeckeaaDoor
open Go.RowKit Go.Maps

theorem run_shr8 (n : Nat) (w : World) : (Op.shift .shr .i64 (n : Int) .u64 8).run Tryd.prog w = .ok (.int .i64 ((n / 256 : Nat) : Int)) w := by
  rw [shift_shr_i64 (x := (n : Int)) (yk := .u64) (y := 8) (by decide) (by decide)]
  simp only [Sem.run_pure]
  congr 1
theorem wpList_shr8 {ops : Array Oper} {rest : List Oper} {o : Oper} {a : Act} {w : World} {Q : Exit → Act → World → Prop} (X Y : Operand) (t u : TypeId) (ho : o.op = .binOp .shr t X Y u) (n : Nat) (hx : a.eval X = .int .i64 (n : Int)) (hy : a.eval Y = .int .u64 8) (hw : Region.wanted o (yielded ops a.tmps) = true)
    (h : wpList Tryd.prog ops Q rest (a.put o.dst (.int .i64 ((n / 256 : Nat) : Int))) w) : wpList Tryd.prog ops Q (o :: rest) a w := by
  refine wpList_step fun K hK => ?_
  rw [if_pos hw]
  have hrun : (execOp a.eval o).run Tryd.prog w = .ok (.value (.int .i64 ((n / 256 : Nat) : Int))) w := by
    obtain ⟨dst, op, type, pos, after, guard⟩ := o
    simp only at ho
    subst ho
    simp only [execOp, Sem.run_bind, hx, hy, eqGuard_shr, Sem.run_pure, Result.andThen_ok, binOp_shr, run_shr8]
  unfold Oper.wp
  rw [hrun]
  exact hK _ _ h
theorem wpList_u8 {ops : Array Oper} {rest : List Oper} {o : Oper} {a : Act} {w : World} {Q : Exit → Act → World → Prop} (X : Operand) (ho : o.op = .convert 3 5 X) (n : Nat) (hx : a.eval X = .int .i64 (n : Int)) (hw : Region.wanted o (yielded ops a.tmps) = true)
    (h : wpList Tryd.prog ops Q rest (a.put o.dst (.int .u8 ((n % 256 : Nat) : Int))) w) : wpList Tryd.prog ops Q (o :: rest) a w := by
  refine wpList_step fun K hK => ?_
  rw [if_pos hw]
  have wl : IntKind.u8.wrap (n : Int) = ((n % 256 : Nat) : Int) := by simp [IntKind.wrap, IntKind.bits, IntKind.signed]
  have hrun : (execOp a.eval o).run Tryd.prog w = .ok (.value (.int .u8 ((n % 256 : Nat) : Int))) w := by
    obtain ⟨dst, op, type, pos, after, guard⟩ := o
    simp only at ho
    subst ho
    have u1 := Tryd.underlying3
    have u2 := Tryd.underlying5
    simp only [execOp, Sem.run_bind, hx]
    rw [← wl]
    go_simp
  unfold Oper.wp
  rw [hrun]
  exact hK _ _ h
def ax (i : Nat) : TU := ⟨17, 4, q4 10 0 (i / 256 % 256) (i % 256), 4, d0, 40000 - (i : Int), 53⟩
def yx (i : Nat) : TU := ⟨17, 4, o0, 4, d0, 40000 - (i : Int), 53⟩
def cM (m : Int) : CF := ⟨m, 4, o0, 20000, 60000, 2, 9, 3, 4, 1⟩
def nM (i : Nat) (le : Int) : FN := ⟨ax i, 40000 - (i : Int), 7, le⟩
set_option maxHeartbeats 1600000 in
set_option maxRecDepth 100000 in
theorem asks_any (i : Nat) (w : World) (hi : i ≤ 4200) : Calls Tryd.prog 20 #[.int .i64 (i : Int)] w fun r w' => r = .returned (.agg (tuC (ax i))) ∧ Below w.heap.size w w' := by
  have ws : IntKind.i64.wrap (40000 - (i : Int)) = 40000 - (i : Int) := by rw [IntKind.wrap_i64]; omega
  obtain ⟨ih, hih⟩ : ∃ ih : Nat, i / 256 % 256 = ih := ⟨_, rfl⟩
  obtain ⟨il, hil⟩ : ∃ il : Nat, i % 256 = il := ⟨_, rfl⟩
  obtain ⟨x, hx⟩ : ∃ x : TU, ax i = x := ⟨_, rfl⟩
  have HX : Hid (ax i = x ∧ x = ⟨17, 4, q4 10 0 ih il, 4, q4 198 51 100 7, 40000 - (i : Int), 53⟩) := ⟨hx, by rw [← hx, ← hih, ← hil]; rfl⟩
  have HI : Hid (i / 256 % 256 = ih ∧ i % 256 = il) := ⟨hih, hil⟩
  clear hi hih hil hx
  obtain ⟨Y, hY⟩ : ∃ Y, Y = w.alloc (.cells (tuC xz) 34) := ⟨_, rfl⟩
  have bY : Below w.heap.size w Y := by rw [hY]; exact (Below.refl _ _).alloc (Nat.le_refl _) _
  obtain ⟨O, hO⟩ : ∃ O, O = w.heap.size := ⟨_, rfl⟩
  have HNY : Hid (TupAt Y O xz) := by show TupAt Y O xz; rw [hY, hO]; exact tup_new w xz
  have HLY : Hid (Below w.heap.size w Y) := bY
  have HEY : Hid (w.alloc (.cells (tuC xz) 34) = Y) := hY.symm
  have HOY : Hid (w.heap.size = O) := hO.symm
  clear hY bY hO
  go_enter Tryd.func20, Tryd.ntmps20
  go_wp2_with (first | (refine wpList_alloc_tup rfl rfl ?_; rw [HEY.out, HOY.out]) | (refine wpList_shr8 (.tmp 3) (.const (.int .u64 8)) _ _ rfl i rfl rfl rfl ?_) | (refine wpList_u8 (.tmp 4) rfl (i / 256) rfl rfl ?_; rw [HI.out.1]) | (refine wpList_u8 (.tmp 6) rfl i rfl rfl ?_; rw [HI.out.2]) | (refine wpList_build_ar4 (.const (.int .u8 10)) (.const (.int .u8 0)) (.tmp 5) (.tmp 7) rfl 10 0 ih il rfl rfl rfl rfl rfl ?_) | (refine wpList_build_ip (.const (.int .i64 4)) (.tmp 8) rfl 4 (q4 10 0 ih il) rfl rfl rfl ?_) | (refine wpList_build_ar4 (.const (.int .u8 198)) _ _ _ rfl 198 51 100 7 rfl rfl rfl rfl rfl ?_) | (refine wpList_build_ip (.const (.int .i64 4)) (.tmp 10) rfl 4 (q4 198 51 100 7) rfl rfl rfl ?_) | (refine wpList_build_tu _ _ _ _ _ rfl 17 4 (q4 10 0 ih il) 4 (q4 198 51 100 7) (40000 - (i : Int)) 53 rfl rfl rfl rfl rfl rfl ?_; rw [← HX.out.2]) | (refine wpList_store_tup (.tmp 2) (.tmp 14) rfl rfl O xz x rfl rfl HNY.out rfl ?_))
  intro w2 h2 k2
  go_wp2_with fail
  refine bodyPost_ret (results_tup rfl _ _ O _ rfl h2) rfl ?_
  exact ⟨by rw [HX.out.1], HLY.out.trans (k2.below (fun q hq => by have hq' : q = O := hq; have := HOY.out; omega) HLY.out.size)⟩
theorem yields_neq_ip {ops : Array Oper} {o : Oper} {a : Act} {S : World → Prop} (X Y : Operand) (ho : o.op = .binOp .neq 24 X Y 24) (V U : Int) (x y : Nat → Nat) (hx : a.eval X = .agg (ipCells V x)) (hy : a.eval Y = .agg (ipCells U y)) (b : Bool) (hb : (!(V == U && same16 x y)) = b) (hw : Region.wanted o (yielded ops a.tmps) = true) : YieldsIf Tryd.prog ops S o (.bool b) a := by
  refine .inl ⟨hw, fun w _ => ?_⟩
  subst hb
  obtain ⟨dst, op, type, pos, after, guard⟩ := o
  simp only at ho
  subst ho
  simp only [execOp, Sem.run_bind, Sem.run_pure, hx, hy, run_eqGuard_agg w .neq 24 _ _ _ _ Tryd.ipGuard, Result.andThen_ok, run_neq_struct, eqIPtop]
theorem same_self (x : Nat → Nat) : same16 x x = true := (same16_iff x x).2 (fun _ _ => rfl)
theorem run_fielddst (x : TU) (w : World) : (Instr.field 34 (.agg (tuC x)) 2).run Tryd.prog w = .ok (.agg (ipCells x.dV x.d)) w := by kernel_rfl
theorem yields_fielddst {ops : Array Oper} {o : Oper} {a : Act} {S : World → Prop} (X : Operand) (ho : o.op = .field 34 X 2) (x : TU) (hx : a.eval X = .agg (tuC x)) (hw : Region.wanted o (yielded ops a.tmps) = true) : YieldsIf Tryd.prog ops S o (.agg (ipCells x.dV x.d)) a := by
  refine .inl ⟨hw, fun w _ => ?_⟩
  obtain ⟨dst, op, type, pos, after, guard⟩ := o
  simp only at ho
  subst ho
  simp only [execOp, Sem.run_bind, hx, run_fielddst x w, Result.andThen_ok]
  rfl
/-- the ports that were given out -/
theorem lawI : Keyed Tryd.prog 3 := int_keyed Tryd.underlying3
theorem key_i {k : Int} (h : -9223372036854775808 ≤ k ∧ k ≤ 9223372036854775807) : keyOf Tryd.prog 3 (.int .i64 k) = some (.int .i64 k) := keyOf_int_mk Tryd.underlying3 (wf_i64 h.1 h.2)
def PM (w : World) (K i : Nat) : Prop := ∃ D, w.ownsMap Tryd.prog 3 anyE K i D ∧ ∀ k : Int, (∀ j : Nat, j < i → k ≠ 40000 - (j : Int)) → Maps.has D (.int .i64 k) = false
theorem PM.ch {S : Nat → Prop} {w w' : World} {K i : Nat} (h : PM w K i) (k : Ch S w w') (hS : ¬ S K) : PM w' K i := by
  obtain ⟨D, ⟨es, clock, hb, F, hs, hD⟩, h2⟩ := h
  exact ⟨D, ⟨es, clock, (k.block K (Array.getElem?_eq_some_iff.1 hb).1 hS).trans hb, F, hs, hD⟩, h2⟩
theorem PM.below {w w' : World} {K i : Nat} (h : PM w K i) (k : Below w.heap.size w w') : PM w' K i := h.ch (Ch.ofBelow (S := fun _ => False) k) id
theorem PM.blk {w : World} {K i : Nat} (h : PM w K i) : ∃ es ck, w.heap[K]? = some (.map es ck) := by
  obtain ⟨D, ⟨es, clock, hb, _⟩, _⟩ := h
  exact ⟨es, clock, hb⟩
theorem zeroB (w : World) : (zeroValue 4).run Tryd.prog w = .ok (.bool false) w := by kernel_rfl
theorem PM.look {w : World} {K i : Nat} (h : PM w K i) (hi : i ≤ 4200) : (Instr.lookup 52 (.map (some K)) (.int .i64 (40000 - (i : Int))) false).run Tryd.prog w = .ok (.bool false) w := by
  obtain ⟨D, hD, hn⟩ := h
  obtain ⟨v, ps, hrun, hv⟩ := hD.lookup lawI Tryd.underlying52 (zeroB w) (zd := .held (.bool false)) (zp := []) rfl (key_i (k := 40000 - (i : Int)) (by omega))
  rw [Maps.atKey_of_not_has (hn _ (fun j hj => by omega))] at hv
  have hv' : some ((DataW.held v : DataW Value), ([] : List MemPlace)) = some (.held (.bool false), ps) := hv
  simp only [Option.some.injEq, Prod.mk.injEq, DataW.held.injEq] at hv'
  rw [hrun, hv'.1]
theorem yields_lookp {ops : Array Oper} {o : Oper} {a : Act} {S : World → Prop} (m x : Operand) (ho : o.op = .lookup 52 m x false) (K i : Nat) (hi : i ≤ 4200) (hm : a.eval m = .map (some K)) (hx : a.eval x = .int .i64 (40000 - (i : Int))) (hw : Region.wanted o (yielded ops a.tmps) = true) (hS : ∀ w, S w → PM w K i) : YieldsIf Tryd.prog ops S o (.bool false) a := by
  refine .inl ⟨hw, fun w hb => ?_⟩
  have hrun := (hS w hb).look hi
  obtain ⟨dst, op, type, pos, after, guard⟩ := o
  simp only at ho
  subst ho
  simp only [execOp, Sem.run_bind, Sem.run_pure, hm, hx, hrun, Result.andThen_ok]
theorem wpList_put_pm {ops : Array Oper} {rest : List Oper} {o : Oper} {a : Act} {w : World} {Q : Exit → Act → World → Prop} (hg : o.guard = none) (hd : o.dst = none) (m x y : Operand) (hop : o.op = .mapUpdate 52 m x y) (K i : Nat) (h : PM w K i) (hi : i ≤ 4200) (hm : a.eval m = .map (some K)) (hx : a.eval x = .int .i64 (40000 - (i : Int))) (hy : a.eval y = .bool true)
    (hK : ∀ w', PM w' K (i + 1) → Ch (fun q => q = K) w w' → wpList Tryd.prog ops Q rest a w') : wpList Tryd.prog ops Q (o :: rest) a w := by
  obtain ⟨D, hD, hn⟩ := h
  refine wpList_mapUpdate_own _ hg m x y 52 hop 3 4 lawI Tryd.underlying52 anyE K i D hm hD (by unfold maxLen; omega) (.int .i64 (40000 - (i : Int))) (.bool true) (.int .i64 (40000 - (i : Int))) hx hy (key_i (by omega)) (.held (.bool true)) [] rfl ?_
  intro w' hown hgr
  rw [hd]
  refine hK w' ⟨_, hown, fun k hk => ?_⟩ ((Ch.ofGrown hgr).mono (fun q _ hq => by have e : some K = some q := hq; simp at e; exact e.symm))
  rw [Maps.has_put_other (by intro e; simp only [Lit.int.injEq, true_and] at e; exact hk i (by omega) e)]
  exact hn k (fun j hj => hk j (by omega))
theorem hd_q4 (a b c d : Nat) : same16 (hdA (q4 a b c d) 32) (q4 a b c d) = true := by
  rw [same16_iff]
  intro i hi
  unfold hdA
  split
  · rfl
  · have : q4 a b c d i = 0 := by
      unfold q4
      split <;> omega
    rw [this, Nat.zero_and]
theorem vld_q4 (a b c d : Nat) : vld 4 (q4 a b c d) = true := by
  unfold vld
  rw [hd_q4]
  rfl
theorem ck17 (a b c d a' b' c' d' : Nat) (s r : Int) (hs : 0 ≤ s ∧ s ≤ 65535) (hr : 0 ≤ r ∧ r ≤ 65535) : ckE ⟨17, 4, q4 a b c d, 4, q4 a' b' c' d', s, r⟩ = 0 := by
  have h1 : tpB ⟨17, 4, q4 a b c d, 4, q4 a' b' c' d', s, r⟩ = true := by
    unfold tpB
    simp only
    rw [vld_q4, vld_q4, inR_iff.2 hs, inR_iff.2 hr]
    rfl
  unfold ckE
  rw [h1]
  rfl
theorem ax_ck {i : Nat} (h : i ≤ 4200) : ckE (ax i) = 0 := ck17 10 0 _ _ 198 51 100 7 _ _ (by omega) (by decide)
theorem yx_ck {i : Nat} (h : i ≤ 4200) : ckE (yx i).rev = 0 := ck17 198 51 100 7 192 0 2 9 53 (40000 - (i : Int)) (by decide) (by omega)
theorem ax_wf {i : Nat} (h : i ≤ 4200) : (ax i).Wf := wf_q4 17 10 0 _ _ 198 51 100 7 _ 53 (by decide) (by omega) (by decide) (by have := Nat.mod_lt (i / 256) (show 0 < 256 by decide); have := Nat.mod_lt i (show 0 < 256 by decide); omega) (by decide)
theorem yx_wf {i : Nat} (h : i ≤ 4200) : (yx i).Wf := wf_q4 17 192 0 2 9 198 51 100 7 _ 53 (by decide) (by omega) (by decide) (by decide) (by decide)
theorem cM_b {m : Int} (h : 1 ≤ m ∧ m ≤ 4096) : cfB (cM m) = true := by
  unfold cfB
  rw [Bool.and_eq_true]
  refine ⟨rfl, ?_⟩
  show (inR m 1 4096 && (4 : Int) == 4 && (clsA 4 o0 == 7 || clsA 4 o0 == 4) && decide ((1 : Int) ≤ 20000) && decide ((20000 : Int) ≤ 60000) && decide ((60000 : Int) ≤ 65535)) = true
  rw [inR_iff.2 h]
  decide +kernel
/-- the flows are the first i ones, each with that time left -/
def FA (E : List FV) (i : Nat) (le : Int) : Prop := E.map FV.n = (List.range i).map (fun j => nM j le)
theorem FA.len {E : List FV} {i : Nat} {le : Int} (h : FA E i le) : E.length = i := by
  have := congrArg List.length h
  simpa using this
theorem FA.mem {E : List FV} {i : Nat} {le : Int} (h : FA E i le) {e : FV} (he : e ∈ E) : ∃ j, j < i ∧ e.n = nM j le := by
  have : e.n ∈ E.map FV.n := List.mem_map_of_mem he
  rw [h] at this
  obtain ⟨j, hj, hn⟩ := List.mem_map.1 this
  exact ⟨j, by simpa using hj, hn.symm⟩
theorem ax_ne {j k : Nat} (h : j ≠ k) : eqP (ax j) (ax k) = false := by
  rw [Bool.eq_false_iff]
  intro e
  have h1 := (eqP_of e).2.2.2.1
  have h2 : (40000 : Int) - (j : Int) = 40000 - (k : Int) := h1
  omega
theorem FA.fF {E : List FV} {i k : Nat} {le : Int} (h : FA E i le) (hk : i ≤ k) : fF E (ax k) = none := by
  unfold Go.Proofs.YtgbbdbddgeckeaaDoor.fF
  rw [List.find?_eq_none]
  intro e he
  obtain ⟨j, hj, hn⟩ := h.mem he
  rw [hn]
  show ¬ eqP (ax j) (ax k) = true
  rw [ax_ne (by omega)]
  decide
theorem FA.fr {E : List FV} {i k : Nat} {le : Int} (h : FA E i le) (hk : i ≤ k) : frB E 17 (40000 - (k : Int)) = true := by
  unfold frB
  have : fQ E ⟨17, 40000 - (k : Int)⟩ = none := by
    unfold fQ
    rw [List.find?_eq_none]
    intro e he
    obtain ⟨j, hj, hn⟩ := h.mem (List.mem_filter.1 he).1
    unfold FV.kq eqQ
    rw [hn]
    intro e2
    simp only [Bool.and_eq_true, beq_iff_eq] at e2
    have h2 : (40000 : Int) - (j : Int) = 40000 - (k : Int) := e2.2
    omega
  rw [this]
  rfl
theorem FA.fp {E : List FV} {i k : Nat} {le m : Int} (h : FA E i le) (hk : i ≤ k) (h4 : k ≤ 4200) : fpO (cM m) E (ax k) = some (40000 - (k : Int)) := by
  unfold fpO
  rw [show (ax k).pr = 17 from rfl, show (ax k).sp = 40000 - (k : Int) from rfl, h.fr hk, inR_iff.2 (show (cM m).lo ≤ 40000 - (k : Int) ∧ 40000 - (k : Int) ≤ (cM m).hi from ⟨by show (20000 : Int) ≤ _; omega, by show _ ≤ (60000 : Int); omega⟩)]
  simp
theorem FA.bg {E : List FV} {i k : Nat} {le m : Int} (h : FA E i le) (hk : i ≤ k) (h4 : k ≤ 4200) (hm : (i : Int) ≠ m) : bgE (cM m) E (ax k) = 0 := by
  unfold bgE
  rw [h.fp hk h4, h.len, show ((i : Int) == (cM m).mx) = false from beq_eq_false_iff_ne.2 hm]
  rfl
theorem FA.full {E : List FV} {i k : Nat} {le m : Int} (h : FA E i le) (hm : (i : Int) = m) : bgE (cM m) E (ax k) = 171 := by
  unfold bgE
  rw [h.len, show ((i : Int) == (cM m).mx) = true from beq_iff_eq.2 hm]
  rfl
theorem FA.snoc {E : List FV} {i : Nat} {le : Int} (h : FA E i le) (P : Nat) : FA (E ++ [⟨nM i le, P⟩]) (i + 1) le := by
  unfold FA at *
  rw [List.map_append, h, List.range_succ, List.map_append]
  rfl
theorem out_full {c : CF} {E : List FV} {x : TU} {fl : Int} {B : Nat} {er : Int} {y : TU} {E' : List FV} {b : Int} (h : OutR c E x fl B er y E') (h1 : ckE x = 0) (h2 : fF E x = none) (h3 : oT 0 (sgN x.pr fl) ≠ 0) (h4 : bgE c E x = b) (hb : b ≠ 0) : er = b ∧ y = xz ∧ E' = E := by
  rcases h with ⟨h, _⟩ | ⟨_, e, hf, _⟩ | ⟨_, hn, ⟨h, _⟩ | ⟨_, _, he, hy, hE⟩ | ⟨_, h, _⟩⟩
  · exact absurd h1 h
  · rw [h2] at hf; cases hf
  · exact absurd h h3
  · exact ⟨by rw [he, h4], hy, hE⟩
  · rw [h4] at h; exact absurd h hb
theorem upd_self {E : List FV} {e : FV} (dj : Dj E) (he : e ∈ E) : updF E e.n.x e = E := by
  unfold updF
  conv => rhs; rw [← List.map_id E]
  apply List.map_congr_left
  intro a ha
  cases h : eqP a.n.x e.n.x with
  | true => rw [dj_one dj ha he h]; rfl
  | false => rfl
theorem aw_mem {w : World} {t M N : Nat} {m : Int} {E : List FV} {i P : Nat} (h : TA w t M N (cM m) E) (he : (⟨nM i 4, P⟩ : FV) ∈ E) : awO (cM m) E (yx i).rev = some ⟨nM i 4, P⟩ := by
  unfold awO
  rw [show ((yx i).rev.dV == 6) = false from rfl]
  show (fQ E ⟨17, 40000 - (i : Int)⟩).bind _ = _
  rw [fQ_mem (k := ⟨17, 40000 - (i : Int)⟩) h.djq he rfl (eqQ_refl (⟨17, 40000 - (i : Int)⟩ : PL))]
  show (if eqP (ouT (cM m) (nM i 4)) (yx i) then some _ else none) = _
  rw [show ouT (cM m) (nM i 4) = yx i from rfl, eqP_refl]
  rfl
theorem turn_same {w : World} {t M N : Nat} {m : Int} {E : List FV} {i P : Nat} (h : TA w t M N (cM m) E) (he : (⟨nM i 4, P⟩ : FV) ∈ E) : turnE (cM m) E ⟨nM i 4, P⟩ 7 = E := upd_self (e := ⟨nM i 4, P⟩) h.dj he
theorem by16_q4 (a b c d : Nat) : by16 (q4 a b c d) = [UInt8.ofNat a, UInt8.ofNat b, UInt8.ofNat c, UInt8.ofNat d, 0, 0, 0, 0, 0, 0, 0, 0, 0, 0, 0, 0] := by
  simp [by16, Lib.bytesOf, toI, ipL, q4, List.range_succ]
theorem u8_lt {a b : Nat} (ha : a < 256) (hb : b < 256) : UInt8.ofNat a < UInt8.ofNat b ↔ a < b := by
  rw [UInt8.lt_iff_toNat_lt]
  simp
  omega
theorem ax_lt {j k : Nat} (h : j < k) (hk : k ≤ 4200) : ordT (ax j) (ax k) < 0 := by
  have h2 : c2V (ax j) (ax k) = -1 := by
    unfold c2V ipV
    rw [show ciV (ax j).sV (ax k).sV = 0 from rfl, if_pos rfl]
    unfold cbV
    have : Lib.compareBytes (by16 (ax j).s) (by16 (ax k).s) < 0 := by
      show Lib.compareBytes (by16 (q4 10 0 (j / 256 % 256) (j % 256))) (by16 (q4 10 0 (k / 256 % 256) (k % 256))) < 0
      rw [by16_q4, by16_q4]
      simp only [Lib.compareBytes, UInt8.lt_irrefl, if_false]
      have l1 := u8_lt (Nat.mod_lt (j / 256) (show 0 < 256 by decide)) (Nat.mod_lt (k / 256) (show 0 < 256 by decide))
      have l2 := u8_lt (Nat.mod_lt (k / 256) (show 0 < 256 by decide)) (Nat.mod_lt (j / 256) (show 0 < 256 by decide))
      have l3 := u8_lt (Nat.mod_lt j (show 0 < 256 by decide)) (Nat.mod_lt k (show 0 < 256 by decide))
      by_cases e : j / 256 % 256 < k / 256 % 256
      · rw [if_pos (l1.2 e)]; omega
      · rw [if_neg (fun x => e (l1.1 x)), if_neg (fun x => by have := l2.1 x; omega), if_pos (l3.2 (by omega))]
        omega
    rw [if_pos this]
  unfold ordT or5
  rw [show c1V (ax j) (ax k) = 0 from rfl, h2]
  simp
theorem sorted_same : ∀ {E S : List FN}, S.Perm E → S.Pairwise (fun a b => 0 ≤ ordV b a) → E.Pairwise (fun a b => ordV a b < 0) → S = E
  | [], S, h, _, _ => List.Perm.eq_nil h
  | e :: E, S, h, hs, he => by
    cases S with
    | nil => have := h.length_eq; simp at this
    | cons s S =>
      obtain ⟨e1, e2⟩ := List.pairwise_cons.1 he
      obtain ⟨s1, s2⟩ := List.pairwise_cons.1 hs
      have hse : s = e := by
        rcases List.mem_cons.1 (h.mem_iff.1 (by simp : s ∈ s :: S)) with h1 | h1
        · exact h1
        · rcases List.mem_cons.1 (h.mem_iff.2 (by simp : e ∈ e :: E)) with h2 | h2
          · exact h2.symm
          · have a1 := e1 s h1
            have a2 := s1 e h2
            omega
      subst hse
      rw [sorted_same (List.Perm.cons_inv h) s2 e2]
theorem FA.dump {E : List FV} {S : List FN} {i : Nat} {le : Int} (h : FA E i le) (hi : i ≤ 4200) (hd : DumpR E S) : S = (List.range i).map (fun j => nM j le) := by
  have h1 := hd.1
  rw [h] at h1
  refine sorted_same h1 hd.2 ?_
  rw [List.pairwise_map]
  refine List.Pairwise.imp_of_mem ?_ List.pairwise_lt_range
  intro a b ha hb hab
  exact ax_lt hab (by have := List.mem_range.1 hb; omega)
theorem FA.tick {E : List FV} {i : Nat} {le : Int} (h : FA E i le) (hle : 2 ≤ le) : FA (E.filterMap tk1) i (le - 1) ∧ endN E = 0 := by
  have he : ∀ e ∈ E, (e.n.le - 1 == 0) = false := fun e he => by
    obtain ⟨j, _, hn⟩ := h.mem he
    rw [hn]
    show (le - 1 == 0) = false
    simp; omega
  constructor
  · have e1 : E.filterMap tk1 = E.map FV.dec := by
      rw [fm_congr (g := fun e => some e.dec) (fun e hm => by unfold tk1; rw [he e hm]; rfl)]
      simp
    rw [e1]
    unfold FA at *
    rw [List.map_map]
    have e2 : E.map (FV.n ∘ FV.dec) = (E.map FV.n).map (fun f => { f with le := f.le - 1 }) := by rw [List.map_map]; rfl
    rw [e2, h, List.map_map]
    rfl
  · unfold endN
    rw [List.filter_eq_nil_iff.2 (fun e hm => by rw [he e hm]; decide)]
    rfl
theorem FA.last {E : List FV} {i : Nat} (h : FA E i 1) : E.filterMap tk1 = [] ∧ endN E = i := by
  have he : ∀ e ∈ E, (e.n.le - 1 == 0) = true := fun e he => by
    obtain ⟨j, _, hn⟩ := h.mem he
    rw [hn]
    rfl
  constructor
  · rw [List.filterMap_eq_nil_iff]
    intro e hm
    unfold tk1
    rw [he e hm]
    rfl
  · unfold endN
    rw [List.filter_eq_self.2 he, h.len]
theorem FA.nil (le : Int) : FA [] 0 le := rfl
theorem cfg_tb {w : World} {t M N O : Nat} {c c' : CF} {E : List FV} (h : TA w t M N c E) (hx : CfgAt w O c') : ¬ TB t M N E O := by
  rintro (h1 | h1 | h1 | ⟨a, ha, h1⟩)
  · have h2 := h.cb; have h3 := hx; unfold CfgAt at h3; unfold TblAt at h2; rw [h1, h2] at h3; simp only [Option.some.injEq, Obj.cells.injEq] at h3; exact absurd h3.2.1 (by decide)
  · obtain ⟨D, hD⟩ := h.ma; obtain ⟨es, ck, hb⟩ := hD.blk; unfold CfgAt at hx; rw [h1, hb] at hx; cases hx
  · obtain ⟨D, hD⟩ := h.mb; obtain ⟨es, ck, hb⟩ := hD.blk; unfold CfgAt at hx; rw [h1, hb] at hx; cases hx
  · have h2 := h.en a ha; have h3 := hx; unfold CfgAt at h3; unfold FloAt at h2; rw [h1, h2] at h3; simp only [Option.some.injEq, Obj.cells.injEq] at h3; exact absurd h3.2.1 (by decide)
/-- the law under way: the configuration, the table, the ports -/
structure MM (w : World) (t M N O K : Nat) (m : Int) (E : List FV) (i : Nat) (A : World) : Prop where
  cf : CfgAt A O (cM m)
  ft : FT w t M N (cM m) E A
  pm : PM A K i
  kn : M ≠ K ∧ N ≠ K
theorem MM.below {w : World} {t M N O K : Nat} {m : Int} {E : List FV} {i : Nat} {A A' : World} (h : MM w t M N O K m E i A) (b : Below A.heap.size A A') : MM w t M N O K m E i A' := ⟨h.cf.below b, h.ft.below b, h.pm.below b, h.kn⟩
theorem MM.ktb {w : World} {t M N O K : Nat} {m : Int} {E : List FV} {i : Nat} {A : World} (h : MM w t M N O K m E i A) : ¬ TB t M N E K := by
  obtain ⟨es, ck, hb⟩ := h.pm.blk
  rintro (h1 | h1 | h1 | ⟨a, ha, h1⟩)
  · exact tbl_ne h.ft.ta.cb hb h1.symm
  · exact h.kn.1 h1.symm
  · exact h.kn.2 h1.symm
  · exact flo_ne (h.ft.ta.en a ha) hb h1.symm
theorem MM.moved {w : World} {t M N O K : Nat} {m : Int} {E E' : List FV} {i : Nat} {A A' : World} (h : MM w t M N O K m E i A) (k : Ch (TB t M N E) A A') (f : FT w t M N (cM m) E' A') : MM w t M N O K m E' i A' := ⟨h.cf.ch k (cfg_tb h.ft.ta h.cf), f, h.pm.ch k h.ktb, h.kn⟩
theorem MM.put {w : World} {t M N O K : Nat} {m : Int} {E : List FV} {i : Nat} {A A' : World} (h : MM w t M N O K m E i A) (hK : w.heap.size ≤ K) (p : PM A' K (i + 1)) (k : Ch (fun q => q = K) A A') : MM w t M N O K m E (i + 1) A' := by
  obtain ⟨es, ck, hb⟩ := h.pm.blk
  refine ⟨h.cf.ch k (fun q => ?_), { h.ft with ta := h.ft.ta.ch k (fun q hq e => h.ktb (by have e' : q = K := e; rw [← e']; exact hq)), bel := h.ft.bel.trans (k.below (fun q e => by have e' : q = K := e; omega) h.ft.bel.size) }, p, h.kn⟩
  have hc := h.cf
  have q' : O = K := q
  unfold CfgAt at hc
  rw [q', hb] at hc
  cases hc
end Go.Proofs.YtgbbdbddgeckeaaDoor
