/-
  Layer 17: the statements' own in4, config0, ask0; a table under way.
-/
import Derived.Test.YtclpeepnngegaaaDoorFlDump
namespace Go.Proofs.YtclpeepnngegaaaDoor
open Go.RowKit Go.Maps

def q4 (a b c d : Nat) : Nat → Nat
  | 0 => a
  | 1 => b
  | 2 => c
  | 3 => d
  | _ => 0
theorem q4_lt {a b c d : Nat} (ha : a < 256) (hb : b < 256) (hc : c < 256) (hd : d < 256) (i : Nat) : q4 a b c d i < 256 := by
  unfold q4
  split <;> omega
theorem run_build_ar4 (a b c d : Nat) (w : World) : (Instr.build 22 #[(0, .int .u8 ((a : Nat) : Int)), (1, .int .u8 ((b : Nat) : Int)), (2, .int .u8 ((c : Nat) : Int)), (3, .int .u8 ((d : Nat) : Int))]).run Tryd.prog w = .ok (.agg (arCells (q4 a b c d))) w := by kernel_rfl
theorem wpList_build_ar4 {ops : Array Oper} {rest : List Oper} {o : Oper} {a_ : Act} {w : World} {Q : Exit → Act → World → Prop} (y0 y1 y2 y3 : Operand) (ho : o.op = .build 22 #[(0, y0), (1, y1), (2, y2), (3, y3)]) (a b c d : Nat) (h0 : a_.eval y0 = .int .u8 ((a : Nat) : Int)) (h1 : a_.eval y1 = .int .u8 ((b : Nat) : Int)) (h2 : a_.eval y2 = .int .u8 ((c : Nat) : Int)) (h3 : a_.eval y3 = .int .u8 ((d : Nat) : Int)) (hw : Region.wanted o (yielded ops a_.tmps) = true)
    (h : wpList Tryd.prog ops Q rest (a_.put o.dst (.agg (arCells (q4 a b c d)))) w) : wpList Tryd.prog ops Q (o :: rest) a_ w := by
  refine wpList_step fun K hK => ?_
  rw [if_pos hw]
  have hrun : (execOp a_.eval o).run Tryd.prog w = .ok (.value (.agg (arCells (q4 a b c d)))) w := by
    obtain ⟨dst, op, type, pos, after, guard⟩ := o
    simp only at ho
    subst ho
    simp only [execOp, Sem.run_bind, List.map_toArray, List.map_cons, List.map_nil, h0, h1, h2, h3, run_build_ar4 a b c d w, Result.andThen_ok]
    rfl
  unfold Oper.wp
  rw [hrun]
  exact hK _ _ h
theorem run_build_ip (V : Int) (f : Nat → Nat) (w : World) : (Instr.build 24 #[(0, .int .i64 V), (1, .agg (arCells f))]).run Tryd.prog w = .ok (.agg (ipCells V f)) w := by kernel_rfl
theorem wpList_build_ip {ops : Array Oper} {rest : List Oper} {o : Oper} {a_ : Act} {w : World} {Q : Exit → Act → World → Prop} (y0 y1 : Operand) (ho : o.op = .build 24 #[(0, y0), (1, y1)]) (V : Int) (f : Nat → Nat) (h0 : a_.eval y0 = .int .i64 V) (h1 : a_.eval y1 = .agg (arCells f)) (hw : Region.wanted o (yielded ops a_.tmps) = true)
    (h : wpList Tryd.prog ops Q rest (a_.put o.dst (.agg (ipCells V f))) w) : wpList Tryd.prog ops Q (o :: rest) a_ w := by
  refine wpList_step fun K hK => ?_
  rw [if_pos hw]
  have hrun : (execOp a_.eval o).run Tryd.prog w = .ok (.value (.agg (ipCells V f))) w := by
    obtain ⟨dst, op, type, pos, after, guard⟩ := o
    simp only at ho
    subst ho
    simp only [execOp, Sem.run_bind, List.map_toArray, List.map_cons, List.map_nil, h0, h1, run_build_ip V f w, Result.andThen_ok]
    rfl
  unfold Oper.wp
  rw [hrun]
  exact hK _ _ h
theorem run_build_cf (mx V : Int) (f : Nat → Nat) (lo hi sy tc fi ud ic : Int) (w : World) : (Instr.build 26 #[(0, .int .i64 mx), (1, .agg (ipCells V f)), (2, .int .i64 lo), (3, .int .i64 hi), (4, .int .i64 sy), (5, .int .i64 tc), (6, .int .i64 fi), (7, .int .i64 ud), (8, .int .i64 ic)]).run Tryd.prog w = .ok (.agg (cfC ⟨mx, V, f, lo, hi, sy, tc, fi, ud, ic⟩)) w := by kernel_rfl
theorem wpList_build_cf {ops : Array Oper} {rest : List Oper} {o : Oper} {a_ : Act} {w : World} {Q : Exit → Act → World → Prop} (y0 y1 y2 y3 y4 y5 y6 y7 y8 : Operand) (ho : o.op = .build 26 #[(0, y0), (1, y1), (2, y2), (3, y3), (4, y4), (5, y5), (6, y6), (7, y7), (8, y8)]) (mx V : Int) (f : Nat → Nat) (lo hi sy tc fi ud ic : Int) (h0 : a_.eval y0 = .int .i64 mx) (h1 : a_.eval y1 = .agg (ipCells V f)) (h2 : a_.eval y2 = .int .i64 lo) (h3 : a_.eval y3 = .int .i64 hi) (h4 : a_.eval y4 = .int .i64 sy) (h5 : a_.eval y5 = .int .i64 tc) (h6 : a_.eval y6 = .int .i64 fi) (h7 : a_.eval y7 = .int .i64 ud) (h8 : a_.eval y8 = .int .i64 ic) (hw : Region.wanted o (yielded ops a_.tmps) = true)
    (h : wpList Tryd.prog ops Q rest (a_.put o.dst (.agg (cfC ⟨mx, V, f, lo, hi, sy, tc, fi, ud, ic⟩))) w) : wpList Tryd.prog ops Q (o :: rest) a_ w := by
  refine wpList_step fun K hK => ?_
  rw [if_pos hw]
  have hrun : (execOp a_.eval o).run Tryd.prog w = .ok (.value (.agg (cfC ⟨mx, V, f, lo, hi, sy, tc, fi, ud, ic⟩))) w := by
    obtain ⟨dst, op, type, pos, after, guard⟩ := o
    simp only at ho
    subst ho
    simp only [execOp, Sem.run_bind, List.map_toArray, List.map_cons, List.map_nil, h0, h1, h2, h3, h4, h5, h6, h7, h8, run_build_cf mx V f lo hi sy tc fi ud ic w, Result.andThen_ok]
    rfl
  unfold Oper.wp
  rw [hrun]
  exact hK _ _ h
theorem run_build_tu (p V : Int) (f : Nat → Nat) (U : Int) (g : Nat → Nat) (s d : Int) (w : World) : (Instr.build 34 #[(0, .int .i64 p), (1, .agg (ipCells V f)), (2, .agg (ipCells U g)), (3, .int .i64 s), (4, .int .i64 d)]).run Tryd.prog w = .ok (.agg (tuC ⟨p, V, f, U, g, s, d⟩)) w := by kernel_rfl
theorem wpList_build_tu {ops : Array Oper} {rest : List Oper} {o : Oper} {a_ : Act} {w : World} {Q : Exit → Act → World → Prop} (y0 y1 y2 y3 y4 : Operand) (ho : o.op = .build 34 #[(0, y0), (1, y1), (2, y2), (3, y3), (4, y4)]) (p V : Int) (f : Nat → Nat) (U : Int) (g : Nat → Nat) (s d : Int) (h0 : a_.eval y0 = .int .i64 p) (h1 : a_.eval y1 = .agg (ipCells V f)) (h2 : a_.eval y2 = .agg (ipCells U g)) (h3 : a_.eval y3 = .int .i64 s) (h4 : a_.eval y4 = .int .i64 d) (hw : Region.wanted o (yielded ops a_.tmps) = true)
    (h : wpList Tryd.prog ops Q rest (a_.put o.dst (.agg (tuC ⟨p, V, f, U, g, s, d⟩))) w) : wpList Tryd.prog ops Q (o :: rest) a_ w := by
  refine wpList_step fun K hK => ?_
  rw [if_pos hw]
  have hrun : (execOp a_.eval o).run Tryd.prog w = .ok (.value (.agg (tuC ⟨p, V, f, U, g, s, d⟩))) w := by
    obtain ⟨dst, op, type, pos, after, guard⟩ := o
    simp only at ho
    subst ho
    simp only [execOp, Sem.run_bind, List.map_toArray, List.map_cons, List.map_nil, h0, h1, h2, h3, h4, run_build_tu p V f U g s d w, Result.andThen_ok]
    rfl
  unfold Oper.wp
  rw [hrun]
  exact hK _ _ h
def o0 : Nat → Nat := q4 192 0 2 9
def s0 : Nat → Nat := q4 10 0 0 1
def d0 : Nat → Nat := q4 198 51 100 7
def cf0 : CF := ⟨2, 4, o0, 1000, 1001, 2, 9, 3, 4, 1⟩
def x0 : TU := ⟨17, 4, s0, 4, d0, 5000, 53⟩
set_option maxHeartbeats 1600000 in
set_option maxRecDepth 100000 in
theorem in4_any (d : Nat) (w : World) : Calls Tryd.prog 31 #[.int .u8 (d : Int)] w fun r w' => r = .returned (.agg (ipCells 4 (q4 10 0 0 d))) ∧ Below w.heap.size w w' := by
  obtain ⟨Y, hY⟩ : ∃ Y, Y = w.alloc (.cells (ipCells 0 (fun _ => 0)) 24) := ⟨_, rfl⟩
  have bY : Below w.heap.size w Y := by rw [hY]; exact (Below.refl _ _).alloc (Nat.le_refl _) _
  obtain ⟨O, hO⟩ : ∃ O, O = w.heap.size := ⟨_, rfl⟩
  have HNY : Hid (IprAt Y O 0 (fun _ => 0)) := by show IprAt Y O 0 (fun _ => 0); rw [hY, hO]; exact ipr_new w 0 (fun _ => 0)
  have HLY : Hid (Below w.heap.size w Y) := bY
  have HEY : Hid (w.alloc (.cells (ipCells 0 (fun _ => 0)) 24) = Y) := hY.symm
  have HOY : Hid (w.heap.size = O) := hO.symm
  clear hY bY hO
  go_enter Tryd.func31, Tryd.ntmps31
  go_wp2_with (first | (refine wpList_alloc_ipr rfl rfl ?_; rw [HEY.out, HOY.out]) | (refine wpList_build_ar4 _ _ _ _ rfl 10 0 0 d rfl rfl rfl rfl rfl ?_) | (refine wpList_build_ip _ _ rfl 4 (q4 10 0 0 d) rfl rfl rfl ?_) | (refine wpList_store_ipr (.tmp 2) (.tmp 5) rfl rfl O 0 (fun _ => 0) 4 (q4 10 0 0 d) rfl rfl HNY.out rfl ?_))
  intro w2 h2 k2
  go_wp2_with fail
  refine bodyPost_ret (results_ipr rfl _ _ O _ _ rfl h2) rfl ?_
  exact ⟨rfl, HLY.out.trans (k2.below (fun q hq => by have hq' : q = O := hq; have := HOY.out; omega) HLY.out.size)⟩
set_option maxHeartbeats 1600000 in
set_option maxRecDepth 100000 in
theorem config0_any (w : World) : Calls Tryd.prog 15 #[] w fun r w' => r = .returned (.agg (cfC cf0)) ∧ Below w.heap.size w w' := by
  obtain ⟨Y, hY⟩ : ∃ Y, Y = w.alloc (.cells (cfC cz) 26) := ⟨_, rfl⟩
  have bY : Below w.heap.size w Y := by rw [hY]; exact (Below.refl _ _).alloc (Nat.le_refl _) _
  obtain ⟨O, hO⟩ : ∃ O, O = w.heap.size := ⟨_, rfl⟩
  have HNY : Hid (CfgAt Y O cz) := by show CfgAt Y O cz; rw [hY, hO]; exact cfg_new w cz
  have HLY : Hid (Below w.heap.size w Y) := bY
  have HEY : Hid (w.alloc (.cells (cfC cz) 26) = Y) := hY.symm
  have HOY : Hid (w.heap.size = O) := hO.symm
  clear hY bY hO
  go_enter Tryd.func15, Tryd.ntmps15
  go_wp2_with (first | (refine wpList_alloc_cfg rfl rfl ?_; rw [HEY.out, HOY.out]) | (refine wpList_build_ar4 _ _ _ _ rfl 192 0 2 9 rfl rfl rfl rfl rfl ?_) | (refine wpList_build_ip _ _ rfl 4 (q4 192 0 2 9) rfl rfl rfl ?_) | (refine wpList_build_cf _ _ _ _ _ _ _ _ _ rfl 2 4 (q4 192 0 2 9) 1000 1001 2 9 3 4 1 rfl rfl rfl rfl rfl rfl rfl rfl rfl rfl ?_) | (refine wpList_store_cfg (.tmp 0) (.tmp 3) rfl rfl O cz cf0 rfl rfl HNY.out rfl ?_))
  intro w2 h2 k2
  go_wp2_with fail
  refine bodyPost_ret (results_cfg rfl _ _ O _ rfl h2) rfl ?_
  exact ⟨rfl, HLY.out.trans (k2.below (fun q hq => by have hq' : q = O := hq; have := HOY.out; omega) HLY.out.size)⟩
set_option maxHeartbeats 1600000 in
set_option maxRecDepth 100000 in
theorem ask0_any (w : World) : Calls Tryd.prog 17 #[] w fun r w' => r = .returned (.agg (tuC x0)) ∧ Below w.heap.size w w' := by
  obtain ⟨Y, hY⟩ : ∃ Y, Y = w.alloc (.cells (tuC xz) 34) := ⟨_, rfl⟩
  have bY : Below w.heap.size w Y := by rw [hY]; exact (Below.refl _ _).alloc (Nat.le_refl _) _
  obtain ⟨O, hO⟩ : ∃ O, O = w.heap.size := ⟨_, rfl⟩
  have HNY : Hid (TupAt Y O xz) := by show TupAt Y O xz; rw [hY, hO]; exact tup_new w xz
  have HLY : Hid (Below w.heap.size w Y) := bY
  have HEY : Hid (w.alloc (.cells (tuC xz) 34) = Y) := hY.symm
  have HOY : Hid (w.heap.size = O) := hO.symm
  clear hY bY hO
  have QI : Hid _ := in4_any 1 Y
  go_enter Tryd.func17, Tryd.ntmps17
  go_wp2_with (first | (refine wpList_alloc_tup rfl rfl ?_; rw [HEY.out, HOY.out]))
  refine Calls.mono QI.out ?_
  rintro e w1 ⟨rfl, b1⟩
  have H1 : Hid (TupAt w1 O xz ∧ Below w.heap.size w w1) := ⟨HNY.out.below b1, bthen HLY.out b1⟩
  clear b1 QI
  go_wp2_with (first | (refine wpList_build_ar4 _ _ _ _ rfl 198 51 100 7 rfl rfl rfl rfl rfl ?_) | (refine wpList_build_ip _ _ rfl 4 (q4 198 51 100 7) rfl rfl rfl ?_) | (refine wpList_build_tu _ _ _ _ _ rfl 17 4 (q4 10 0 0 1) 4 (q4 198 51 100 7) 5000 53 rfl rfl rfl rfl rfl rfl ?_) | (refine wpList_store_tup (.tmp 0) (.tmp 4) rfl rfl O xz x0 rfl rfl H1.out.1 rfl ?_))
  intro w2 h2 k2
  go_wp2_with fail
  refine bodyPost_ret (results_tup rfl _ _ O _ rfl h2) rfl ?_
  exact ⟨rfl, H1.out.2.trans (k2.below (fun q hq => by have hq' : q = O := hq; have := HOY.out; omega) H1.out.2.size)⟩
/-- the program's three tables lie where it has them -/
structure Gl (W : World) : Prop where
  sp : Spe8 W
  ot : oTb W
  it : iTb W
theorem Gl.old {W W' : World} (h : Gl W) (b : Below W.heap.size W W') : Gl W' := ⟨h.sp.old b, h.ot.old b, h.it.old b⟩
/-- a table under way: all of it lies behind W -/
structure FT (W : World) (t M N : Nat) (c : CF) (E : List FV) (w : World) : Prop where
  ta : TA w t M N c E
  ok : CfOk c
  ln : (E.length : Int) ≤ c.mx
  st : ∀ e ∈ E, StOk e
  le : ∀ e ∈ E, LeOk e
  bel : Below W.heap.size W w
  far : ∀ q, TB t M N E q → W.heap.size ≤ q
theorem FT.len {W : World} {t M N : Nat} {c : CF} {E : List FV} {w : World} (h : FT W t M N c E w) : E.length ≤ 4096 := by have := h.ln; have := h.ok.mx; omega
theorem FT.below {W : World} {t M N : Nat} {c : CF} {E : List FV} {w w' : World} (h : FT W t M N c E w) (b : Below w.heap.size w w') : FT W t M N c E w' := { h with ta := h.ta.below b, bel := bthen h.bel b }
theorem FT.gl {W : World} {t M N : Nat} {c : CF} {E : List FV} {w : World} (h : FT W t M N c E w) (g : Gl W) : Gl w := g.old h.bel
theorem tkN_ok {c : CF} (h : CfOk c) (pr st : Int) : 1 ≤ tkN c pr st ∧ tkN c pr st ≤ 1048576 := by
  unfold tkN
  have := h.sy; have := h.tc; have := h.fi; have := h.ud; have := h.ic
  repeat' split
  all_goals omega
theorem outL_ok : ∀ k, k < 56 → outL.getD k 0 = -1 ∨ (0 ≤ outL.getD k 0 ∧ outL.getD k 0 ≤ 7) := by decide
theorem inL_ok : ∀ k, k < 56 → inL.getD k 0 = -1 ∨ (0 ≤ inL.getD k 0 ∧ inL.getD k 0 ≤ 7) := by decide
theorem oT_ok {st sg : Int} (h1 : 0 ≤ st ∧ st ≤ 7) (h2 : 0 ≤ sg ∧ sg < 7) : oT st sg = -1 ∨ (0 ≤ oT st sg ∧ oT st sg ≤ 7) := outL_ok _ (by omega)
theorem iT_ok {st sg : Int} (h1 : 0 ≤ st ∧ st ≤ 7) (h2 : 0 ≤ sg ∧ sg < 7) : iT st sg = -1 ∨ (0 ≤ iT st sg ∧ iT st sg ≤ 7) := inL_ok _ (by omega)
theorem turn_in {c : CF} {E : List FV} {e a : FV} {v : Int} (h : a ∈ turnE c E e v) : a ∈ E ∨ (a = e.turn c v ∧ v ≠ -1) := by
  unfold turnE at h
  split at h
  · exact .inl (List.mem_filter.1 h).1
  · rename_i hv
    rcases upd_mem h with h1 | ⟨h1, _⟩
    · exact .inr ⟨h1, by simpa using hv⟩
    · exact .inl h1
theorem turn_len {c : CF} {E : List FV} {e : FV} {v : Int} : (turnE c E e v).length ≤ E.length := by
  unfold turnE
  split
  · exact List.length_filter_le _ _
  · unfold updF; rw [List.length_map]; exact Nat.le_refl _
theorem turn_tb {t M N : Nat} {c : CF} {E : List FV} {e : FV} {v : Int} (dj : Dj E) (he : e ∈ E) : ∀ q, TB t M N (turnE c E e v) q → TB t M N E q := fun q hq => by
  unfold turnE at hq
  split at hq
  · exact TB.gone q hq
  · exact TB.turned (e' := e.turn c v) (fF_mem dj he (eqP_refl _)) rfl q hq
theorem FT.turned {W : World} {t M N : Nat} {c : CF} {E : List FV} {w w' : World} (h : FT W t M N c E w) {e : FV} (he : e ∈ E) {v : Int} (hv : v = -1 ∨ (0 ≤ v ∧ v ≤ 7)) (h0 : v ≠ 0) (hT : TA w' t M N c (turnE c E e v)) (k : Ch (TB t M N E) w w') : FT W t M N c (turnE c E e v) w' := by
  refine ⟨hT, h.ok, by have := h.ln; have := turn_len (c := c) (E := E) (e := e) (v := v); omega, fun a ha => ?_, fun a ha => ?_, h.bel.trans (k.below (fun q hq => h.far q hq) h.bel.size), fun q hq => h.far q (turn_tb h.ta.dj he q hq)⟩
  · rcases turn_in ha with h1 | ⟨rfl, h1⟩
    · exact h.st a h1
    · exact ⟨by show 1 ≤ v; omega, by show v ≤ 7; omega⟩
  · rcases turn_in ha with h1 | ⟨rfl, _⟩
    · exact h.le a h1
    · have := tkN_ok h.ok e.n.x.pr v
      exact ⟨this.1, this.2⟩
theorem FT.out {W : World} {t M N : Nat} {c : CF} {E : List FV} {w : World} (h : FT W t M N c E w) (g : Gl W) (x : TU) (hx : x.Wf) (fl : Int) : Calls Tryd.prog 11 #[.pointer (some ⟨t, 0, none⟩), .agg (tuC x), .int .i64 fl] w fun r w' => ∃ er y E', r = .returned (.tuple #[.agg (tuC y), .int .i64 er]) ∧ OutR c E x fl w.heap.size er y E' ∧ FT W t M N c E' w' ∧ Ch (TB t M N E) w w' := by
  refine (out_any t M N c E w h.ta h.ok h.len h.st x hx fl (h.gl g).ot).mono ?_
  rintro r w' ⟨er, y, E', rfl, hR, hT, k⟩
  refine ⟨er, y, E', rfl, hR, ?_, k⟩
  have hb : Below W.heap.size W w' := h.bel.trans (k.below (fun q hq => h.far q hq) h.bel.size)
  have hsg := sgN_lt x.pr fl
  rcases hR with ⟨_, _, _, rfl⟩ | ⟨_, e, hf, ⟨_, _, _, rfl⟩ | ⟨hv, _, _, rfl⟩⟩ | ⟨_, hn, ⟨_, _, _, rfl⟩ | ⟨_, _, _, _, rfl⟩ | ⟨hv, hbg, _, po, P, hpo, hP, _, rfl⟩⟩
  · exact ⟨hT, h.ok, h.ln, h.st, h.le, hb, h.far⟩
  · exact ⟨hT, h.ok, h.ln, h.st, h.le, hb, h.far⟩
  · have he := (fF_some hf).1
    have hs := h.st e he
    exact h.turned he (oT_ok ⟨by have := hs.lo; omega, hs.hi⟩ hsg) hv hT k
  · exact ⟨hT, h.ok, h.ln, h.st, h.le, hb, h.far⟩
  · exact ⟨hT, h.ok, h.ln, h.st, h.le, hb, h.far⟩
  · have h0 := oT0 _ hsg.1 hsg.2
    have h1 := oT_ok (st := 0) (by omega) hsg
    have h2 : oT 0 (sgN x.pr fl) ≠ -1 := by simpa using h0
    refine ⟨hT, h.ok, ?_, fun a ha => ?_, fun a ha => ?_, hb, ?_⟩
    · have h3 := h.ln
      have h4 : (E.length : Int) ≠ c.mx := fun e => by
        unfold bgE at hbg
        have e' : ((E.length : Int) == c.mx) = true := by simpa using e
        rw [e'] at hbg
        split at hbg <;> simp at hbg
      rw [List.length_append]
      simp only [List.length_cons, List.length_nil]
      omega
    · rcases List.mem_append.1 ha with ha | ha
      · exact h.st a ha
      · simp only [List.mem_singleton] at ha
        subst ha
        exact ⟨by show 1 ≤ oT 0 (sgN x.pr fl); omega, by show oT 0 (sgN x.pr fl) ≤ 7; omega⟩
    · rcases List.mem_append.1 ha with ha | ha
      · exact h.le a ha
      · simp only [List.mem_singleton] at ha
        subst ha
        have := tkN_ok h.ok x.pr (oT 0 (sgN x.pr fl))
        exact ⟨this.1, this.2⟩
    · rintro q (hq | hq | hq | ⟨a, ha, hq⟩)
      · exact h.far q (.inl hq)
      · exact h.far q (.inr (.inl hq))
      · exact h.far q (.inr (.inr (.inl hq)))
      · rcases List.mem_append.1 ha with ha | ha
        · exact h.far q (.inr (.inr (.inr ⟨a, ha, hq⟩)))
        · simp only [List.mem_singleton] at ha
          subst ha
          have hq' : q = P := hq
          have := h.bel.size
          omega
theorem FT.inn {W : World} {t M N : Nat} {c : CF} {E : List FV} {w : World} (h : FT W t M N c E w) (g : Gl W) (x : TU) (hx : x.Wf) (fl : Int) : Calls Tryd.prog 12 #[.pointer (some ⟨t, 0, none⟩), .agg (tuC x), .int .i64 fl] w fun r w' => ∃ er y E', r = .returned (.tuple #[.agg (tuC y), .int .i64 er]) ∧ InR c E x fl er y E' ∧ FT W t M N c E' w' ∧ Ch (TB t M N E) w w' := by
  refine (in_any t M N c E w h.ta h.ok h.len h.st x hx fl (h.gl g).it).mono ?_
  rintro r w' ⟨er, y, E', rfl, hR, hT, k⟩
  refine ⟨er, y, E', rfl, hR, ?_, k⟩
  have hb : Below W.heap.size W w' := h.bel.trans (k.below (fun q hq => h.far q hq) h.bel.size)
  have hsg := sgN_lt x.pr fl
  rcases hR with ⟨_, _, _, rfl⟩ | ⟨_, _, _, _, rfl⟩ | ⟨_, e, hf, ⟨_, _, _, rfl⟩ | ⟨hv, _, _, rfl⟩⟩
  · exact ⟨hT, h.ok, h.ln, h.st, h.le, hb, h.far⟩
  · exact ⟨hT, h.ok, h.ln, h.st, h.le, hb, h.far⟩
  · exact ⟨hT, h.ok, h.ln, h.st, h.le, hb, h.far⟩
  · have he := awO_mem hf
    have hs := h.st e he
    exact h.turned he (iT_ok ⟨by have := hs.lo; omega, hs.hi⟩ hsg) hv hT k
theorem FT.tick {W : World} {t M N : Nat} {c : CF} {E : List FV} {w : World} (h : FT W t M N c E w) : Calls Tryd.prog 18 #[.pointer (some ⟨t, 0, none⟩)] w fun r w' => r = .returned (.int .i64 (endN E : Nat)) ∧ FT W t M N c (E.filterMap tk1) w' ∧ Ch (TB t M N E) w w' := by
  refine (tick_any t M N c E w h.ta h.len h.le).mono ?_
  rintro r w' ⟨rfl, hT, k⟩
  refine ⟨rfl, ⟨hT, h.ok, ?_, fun a ha => ?_, fun a ha => ?_, h.bel.trans (k.below (fun q hq => h.far q hq) h.bel.size), ?_⟩, k⟩
  · have := h.ln
    have := List.length_filterMap_le tk1 E
    omega
  · obtain ⟨e, he, h1⟩ := List.mem_filterMap.1 ha
    unfold tk1 at h1
    split at h1
    · cases h1
    · obtain rfl := Option.some.inj h1
      have := h.st e he
      exact ⟨this.lo, this.hi⟩
  · obtain ⟨e, he, h1⟩ := List.mem_filterMap.1 ha
    unfold tk1 at h1
    split at h1
    · cases h1
    · rename_i hz
      obtain rfl := Option.some.inj h1
      have := h.le e he
      have hz' : e.n.le - 1 ≠ 0 := by simpa using hz
      exact ⟨by show 1 ≤ e.n.le - 1; have := this.lo; omega, by show e.n.le - 1 ≤ 1048576; have := this.hi; omega⟩
  · rintro q (hq | hq | hq | ⟨a, ha, hq⟩)
    · exact h.far q (.inl hq)
    · exact h.far q (.inr (.inl hq))
    · exact h.far q (.inr (.inr (.inl hq)))
    · obtain ⟨e, he, h1⟩ := List.mem_filterMap.1 ha
      exact h.far q (.inr (.inr (.inr ⟨e, he, by rw [hq, (tk1_x h1).2]⟩)))
theorem FT.lens {W : World} {t M N : Nat} {c : CF} {E : List FV} {w : World} (h : FT W t M N c E w) : Calls Tryd.prog 10 #[.pointer (some ⟨t, 0, none⟩)] w fun r w' => r = .returned (.int .i64 (E.length : Nat)) ∧ w = w' := len_any t M N c E w h.ta
theorem FT.dump {W : World} {t M N : Nat} {c : CF} {E : List FV} {w : World} (h : FT W t M N c E w) : Calls Tryd.prog 19 #[.pointer (some ⟨t, 0, none⟩)] w fun r w' => ∃ v S, r = .returned v ∧ DumpR E S ∧ FL w' w.heap.size v S ∧ (∃ g cc, v = .slice (some ⟨g, 0, none⟩) S.length cc) ∧ Below w.heap.size w w' := dump_any t M N c E w h.ta h.len
theorem ft_new (c : CF) (w W : World) (ho : ∀ i, i < 16 → c.o i < 256) (hb : cfB c = true) (g : Gl W) (bel : Below W.heap.size W w) : Calls Tryd.prog 16 #[.agg (cfC c)] w fun e w' => ∃ t M N, e = .returned (.tuple #[.pointer (some ⟨t, 0, none⟩), .int .i64 0]) ∧ FT W t M N c [] w' ∧ Below w.heap.size w w' := by
  refine (new_any c w ho (g.old bel).sp).mono ?_
  rintro e w' ⟨b, ⟨_, t, M, N, rfl, hT, h1, h2, h3⟩ | ⟨h, _⟩⟩
  · have hs := bel.size
    have hk := cfB_ok hb ho
    refine ⟨t, M, N, rfl, ⟨hT, hk, by have := hk.mx; simp; omega, (fun e he => by cases he), (fun e he => by cases he), bthen bel b, ?_⟩, b⟩
    rintro q (hq | hq | hq | ⟨a, ha, hq⟩)
    · omega
    · omega
    · omega
    · cases ha
  · rw [hb] at h; cases h
end Go.Proofs.YtclpeepnngegaaaDoor
