/-
  FlH0 R4a: lemmas of the proof of FlowPlays, and walks through the functions that it calls.
-/
import Derived.Deep.CutBlock
import Derived.Deep.DeepCutAuto
import Derived.Test.YtclpeepnngegaaaGreatDoorP00
import Derived.Test.YtclpeepnngegaaaGreatDoorP01
import Derived.Test.YtclpeepnngegaaaGreatDoorP14
namespace Go.Proofs.YtclpeepnngegaaaGreatDoor
open Go.RowKit Go.Maps
def q4 (a b c d : Nat) : Nat → Nat
 | 0 => a
 | 1 => b
 | 2 => c
 | 3 => d
 | _ => 0
theorem q4_lt {a b c d : Nat} (ha : a < 256) (hb : b < 256) (hc : c < 256) (hd : d < 256) (i : Nat) : q4 a b c d i < 256 := by
 unfold q4
 split <;> omega
theorem run_build_ar4 (a b c d : Nat) (w : World) : (Instr.build 22 #[(0, .int .u8 ((a : Nat) : Int)), (1, .int .u8 ((b : Nat) : Int)), (2, .int .u8 ((c : Nat) : Int)), (3, .int .u8 ((d : Nat) : Int))]).run Tryz.prog w = .ok (.agg (arCells (q4 a b c d))) w := by kernel_rfl
theorem wpList_build_ar4 {ops : Array Oper} {rest : List Oper} {o : Oper} {a_ : Act} {w : World} {Q : Exit → Act → World → Prop} (y0 y1 y2 y3 : Operand) (ho : o.op = .build 22 #[(0, y0), (1, y1), (2, y2), (3, y3)]) (a b c d : Nat) (h0 : a_.eval y0 = .int .u8 ((a : Nat) : Int)) (h1 : a_.eval y1 = .int .u8 ((b : Nat) : Int)) (h2 : a_.eval y2 = .int .u8 ((c : Nat) : Int)) (h3 : a_.eval y3 = .int .u8 ((d : Nat) : Int)) (hw : Region.wanted o (yielded ops a_.tmps) = true)
 (h : wpList Tryz.prog ops Q rest (a_.put o.dst (.agg (arCells (q4 a b c d)))) w) : wpList Tryz.prog ops Q (o :: rest) a_ w := by
 refine wpList_step fun K hK => ?_
 rw [if_pos hw]
 have hrun : (execOp a_.eval o).run Tryz.prog w = .ok (.value (.agg (arCells (q4 a b c d)))) w := by
  obtain ⟨dst, op, type, pos, after, guard⟩ := o
  simp only at ho
  subst ho
  simp only [execOp, Sem.run_bind, List.map_toArray, List.map_cons, List.map_nil, h0, h1, h2, h3, run_build_ar4 a b c d w, Result.andThen_ok]
  rfl
 unfold Oper.wp
 rw [hrun]
 exact hK _ _ h
theorem run_build_ip (V : Int) (f : Nat → Nat) (w : World) : (Instr.build 24 #[(0, .int .i64 V), (1, .agg (arCells f))]).run Tryz.prog w = .ok (.agg (ipCells V f)) w := by kernel_rfl
theorem wpList_build_ip {ops : Array Oper} {rest : List Oper} {o : Oper} {a_ : Act} {w : World} {Q : Exit → Act → World → Prop} (y0 y1 : Operand) (ho : o.op = .build 24 #[(0, y0), (1, y1)]) (V : Int) (f : Nat → Nat) (h0 : a_.eval y0 = .int .i64 V) (h1 : a_.eval y1 = .agg (arCells f)) (hw : Region.wanted o (yielded ops a_.tmps) = true)
 (h : wpList Tryz.prog ops Q rest (a_.put o.dst (.agg (ipCells V f))) w) : wpList Tryz.prog ops Q (o :: rest) a_ w := by
 refine wpList_step fun K hK => ?_
 rw [if_pos hw]
 have hrun : (execOp a_.eval o).run Tryz.prog w = .ok (.value (.agg (ipCells V f))) w := by
  obtain ⟨dst, op, type, pos, after, guard⟩ := o
  simp only at ho
  subst ho
  simp only [execOp, Sem.run_bind, List.map_toArray, List.map_cons, List.map_nil, h0, h1, run_build_ip V f w, Result.andThen_ok]
  rfl
 unfold Oper.wp
 rw [hrun]
 exact hK _ _ h
theorem run_build_cf (mx V : Int) (f : Nat → Nat) (lo hi sy tc fi ud ic : Int) (w : World) : (Instr.build 26 #[(0, .int .i64 mx), (1, .agg (ipCells V f)), (2, .int .i64 lo), (3, .int .i64 hi), (4, .int .i64 sy), (5, .int .i64 tc), (6, .int .i64 fi), (7, .int .i64 ud), (8, .int .i64 ic)]).run Tryz.prog w = .ok (.agg (cfC ⟨mx, V, f, lo, hi, sy, tc, fi, ud, ic⟩)) w := by kernel_rfl
theorem wpList_build_cf {ops : Array Oper} {rest : List Oper} {o : Oper} {a_ : Act} {w : World} {Q : Exit → Act → World → Prop} (y0 y1 y2 y3 y4 y5 y6 y7 y8 : Operand) (ho : o.op = .build 26 #[(0, y0), (1, y1), (2, y2), (3, y3), (4, y4), (5, y5), (6, y6), (7, y7), (8, y8)]) (mx V : Int) (f : Nat → Nat) (lo hi sy tc fi ud ic : Int) (h0 : a_.eval y0 = .int .i64 mx) (h1 : a_.eval y1 = .agg (ipCells V f)) (h2 : a_.eval y2 = .int .i64 lo) (h3 : a_.eval y3 = .int .i64 hi) (h4 : a_.eval y4 = .int .i64 sy) (h5 : a_.eval y5 = .int .i64 tc) (h6 : a_.eval y6 = .int .i64 fi) (h7 : a_.eval y7 = .int .i64 ud) (h8 : a_.eval y8 = .int .i64 ic) (hw : Region.wanted o (yielded ops a_.tmps) = true)
 (h : wpList Tryz.prog ops Q rest (a_.put o.dst (.agg (cfC ⟨mx, V, f, lo, hi, sy, tc, fi, ud, ic⟩))) w) : wpList Tryz.prog ops Q (o :: rest) a_ w := by
 refine wpList_step fun K hK => ?_
 rw [if_pos hw]
 have hrun : (execOp a_.eval o).run Tryz.prog w = .ok (.value (.agg (cfC ⟨mx, V, f, lo, hi, sy, tc, fi, ud, ic⟩))) w := by
  obtain ⟨dst, op, type, pos, after, guard⟩ := o
  simp only at ho
  subst ho
  simp only [execOp, Sem.run_bind, List.map_toArray, List.map_cons, List.map_nil, h0, h1, h2, h3, h4, h5, h6, h7, h8, run_build_cf mx V f lo hi sy tc fi ud ic w, Result.andThen_ok]
  rfl
 unfold Oper.wp
 rw [hrun]
 exact hK _ _ h
theorem run_build_tu (p V : Int) (f : Nat → Nat) (U : Int) (g : Nat → Nat) (s d : Int) (w : World) : (Instr.build 38 #[(0, .int .i64 p), (1, .agg (ipCells V f)), (2, .agg (ipCells U g)), (3, .int .i64 s), (4, .int .i64 d)]).run Tryz.prog w = .ok (.agg (tuC ⟨p, V, f, U, g, s, d⟩)) w := by kernel_rfl
theorem wpList_build_tu {ops : Array Oper} {rest : List Oper} {o : Oper} {a_ : Act} {w : World} {Q : Exit → Act → World → Prop} (y0 y1 y2 y3 y4 : Operand) (ho : o.op = .build 38 #[(0, y0), (1, y1), (2, y2), (3, y3), (4, y4)]) (p V : Int) (f : Nat → Nat) (U : Int) (g : Nat → Nat) (s d : Int) (h0 : a_.eval y0 = .int .i64 p) (h1 : a_.eval y1 = .agg (ipCells V f)) (h2 : a_.eval y2 = .agg (ipCells U g)) (h3 : a_.eval y3 = .int .i64 s) (h4 : a_.eval y4 = .int .i64 d) (hw : Region.wanted o (yielded ops a_.tmps) = true)
 (h : wpList Tryz.prog ops Q rest (a_.put o.dst (.agg (tuC ⟨p, V, f, U, g, s, d⟩))) w) : wpList Tryz.prog ops Q (o :: rest) a_ w := by
 refine wpList_step fun K hK => ?_
 rw [if_pos hw]
 have hrun : (execOp a_.eval o).run Tryz.prog w = .ok (.value (.agg (tuC ⟨p, V, f, U, g, s, d⟩))) w := by
  obtain ⟨dst, op, type, pos, after, guard⟩ := o
  simp only at ho
  subst ho
  simp only [execOp, Sem.run_bind, List.map_toArray, List.map_cons, List.map_nil, h0, h1, h2, h3, h4, run_build_tu p V f U g s d w, Result.andThen_ok]
  rfl
 unfold Oper.wp
 rw [hrun]
 exact hK _ _ h
def o0 : Nat → Nat := q4 192 0 2 9
def s0 : Nat → Nat := q4 10 0 0 1
def d0 : Nat → Nat := q4 198 51 100 7
def cf0 : CF := ⟨2, 4, o0, 1000, 1001, 2, 9, 3, 4, 1⟩
def x0 : TU := ⟨17, 4, s0, 4, d0, 5000, 53⟩
set_option maxHeartbeats 1600000 in
set_option maxRecDepth 100000 in
theorem in4_any (d : Nat) (w : World) : Calls Tryz.prog 22 #[.int .u8 (d : Int)] w fun r w' => r = .returned (.agg (ipCells 4 (q4 10 0 0 d))) ∧ Below w.heap.size w w' := by
 obtain ⟨Y, O, -, HOY, HLY, HEY, hb⟩ := zBx w (ipCells 0 (fun _ => 0)) 24
 have HNY : Hid (IprAt Y O 0 (fun _ => 0)) := hb
 clear hb
 go_enter Tryz.func22, Tryz.ntmps22
 go_wp2_with (first | (refine wpList_alloc_ipr rfl rfl ?_; rw [HEY.out, HOY.out]) | (refine wpList_build_ar4 _ _ _ _ rfl 10 0 0 d rfl rfl rfl rfl rfl ?_) | (refine wpList_build_ip _ _ rfl 4 (q4 10 0 0 d) rfl rfl rfl ?_) | (refine wpList_store_ipr (.tmp 2) (.tmp 5) rfl rfl O 0 (fun _ => 0) 4 (q4 10 0 0 d) rfl rfl HNY.out rfl ?_))
 intro w2 h2 k2
 go_wp2_with fail
 refine bodyPost_ret (results_ipr rfl _ _ O _ _ rfl h2) rfl ?_
 exact ⟨rfl, HLY.out.trans (k2.below (fun q hq => by have hq' : q = O := hq; have := HOY.out; omega) HLY.out.size)⟩
set_option maxHeartbeats 1600000 in
set_option maxRecDepth 100000 in
theorem config0_any (w : World) : Calls Tryz.prog 5 #[] w fun r w' => r = .returned (.agg (cfC cf0)) ∧ Below w.heap.size w w' := by
 obtain ⟨Y, O, -, HOY, HLY, HEY, hb⟩ := zBx w (cfC cz) 26
 have HNY : Hid (CfgAt Y O cz) := hb
 clear hb
 go_enter Tryz.func5, Tryz.ntmps5
 go_wp2_with (first | (refine wpList_alloc_cfg rfl rfl ?_; rw [HEY.out, HOY.out]) | (refine wpList_build_ar4 _ _ _ _ rfl 192 0 2 9 rfl rfl rfl rfl rfl ?_) | (refine wpList_build_ip _ _ rfl 4 (q4 192 0 2 9) rfl rfl rfl ?_) | (refine wpList_build_cf _ _ _ _ _ _ _ _ _ rfl 2 4 (q4 192 0 2 9) 1000 1001 2 9 3 4 1 rfl rfl rfl rfl rfl rfl rfl rfl rfl rfl ?_) | (refine wpList_store_cfg (.tmp 0) (.tmp 3) rfl rfl O cz cf0 rfl rfl HNY.out rfl ?_))
 intro w2 h2 k2
 go_wp2_with fail
 refine bodyPost_ret (results_cfg rfl _ _ O _ rfl h2) rfl ?_
 exact ⟨rfl, HLY.out.trans (k2.below (fun q hq => by have hq' : q = O := hq; have := HOY.out; omega) HLY.out.size)⟩
set_option maxHeartbeats 1600000 in
set_option maxRecDepth 100000 in
theorem ask0_any (w : World) : Calls Tryz.prog 7 #[] w fun r w' => r = .returned (.agg (tuC x0)) ∧ Below w.heap.size w w' := by
 obtain ⟨Y, O, -, HOY, HLY, HEY, hb⟩ := zBx w (tuC xz) 38
 have HNY : Hid (TupAt Y O xz) := hb
 clear hb
 have QI : Hid _ := in4_any 1 Y
 go_enter Tryz.func7, Tryz.ntmps7
 go_wp2_with (first | (refine wpList_alloc_tup rfl rfl ?_; rw [HEY.out, HOY.out]))
 refine Calls.mono QI.out ?_
 rintro e w1 ⟨rfl, b1⟩
 have H1 : Hid (TupAt w1 O xz ∧ Below w.heap.size w w1) := ⟨HNY.out.below b1, bthen HLY.out b1⟩
 clear b1 QI
 go_wp2_with (first | (refine wpList_build_ar4 _ _ _ _ rfl 198 51 100 7 rfl rfl rfl rfl rfl ?_) | (refine wpList_build_ip _ _ rfl 4 (q4 198 51 100 7) rfl rfl rfl ?_) | (refine wpList_build_tu _ _ _ _ _ rfl 17 4 (q4 10 0 0 1) 4 (q4 198 51 100 7) 5000 53 rfl rfl rfl rfl rfl rfl ?_) | (refine wpList_store_tup (.tmp 0) (.tmp 4) rfl rfl O xz x0 rfl rfl H1.out.1 rfl ?_))
 intro w2 h2 k2
 go_wp2_with fail
 refine bodyPost_ret (results_tup rfl _ _ O _ rfl h2) rfl ?_
 exact ⟨rfl, H1.out.2.trans (k2.below (fun q hq => by have hq' : q = O := hq; have := HOY.out; omega) H1.out.2.size)⟩
structure Gl (W : World) : Prop where
  sp : Spe8 W
  ot : oTb W
  it : iTb W
theorem Gl.old {W W' : World} (h : Gl W) (b : Below W.heap.size W W') : Gl W' := ⟨h.sp.old b, h.ot.old b, h.it.old b⟩
structure FT (W : World) (t M N : Nat) (c : CF) (E : List FV) (w : World) : Prop where
  ta : TA w t M N c E
  ok : CfOk c
  ln : (E.length : Int) ≤ c.mx
  st : ∀ e ∈ E, StOk e
  le : ∀ e ∈ E, LeOk e
  bel : Below W.heap.size W w
  far : ∀ q, TB t M N E q → W.heap.size ≤ q
theorem FT.len {W : World} {t M N : Nat} {c : CF} {E : List FV} {w : World} (h : FT W t M N c E w) : E.length ≤ 4096 := by have := h.ln; have := h.ok.mx; omega
theorem FT.below {W : World} {t M N : Nat} {c : CF} {E : List FV} {w w' : World} (h : FT W t M N c E w) (b : Below w.heap.size w w') : FT W t M N c E w' := { h with ta := h.ta.below b, bel := bthen h.bel b }
theorem FT.gl {W : World} {t M N : Nat} {c : CF} {E : List FV} {w : World} (h : FT W t M N c E w) (g : Gl W) : Gl w := g.old h.bel
theorem tkN_ok {c : CF} (h : CfOk c) (pr st : Int) : 1 ≤ tkN c pr st ∧ tkN c pr st ≤ 1048576 := by
 unfold tkN
 have := h.sy; have := h.tc; have := h.fi; have := h.ud; have := h.ic
 repeat' split
 all_goals omega
theorem outL_ok : ∀ k, k < 56 → outL.getD k 0 = -1 ∨ (0 ≤ outL.getD k 0 ∧ outL.getD k 0 ≤ 7) := by decide
theorem inL_ok : ∀ k, k < 56 → inL.getD k 0 = -1 ∨ (0 ≤ inL.getD k 0 ∧ inL.getD k 0 ≤ 7) := by decide
theorem oT_ok {st sg : Int} (h1 : 0 ≤ st ∧ st ≤ 7) (h2 : 0 ≤ sg ∧ sg < 7) : oT st sg = -1 ∨ (0 ≤ oT st sg ∧ oT st sg ≤ 7) := outL_ok _ (by omega)
theorem iT_ok {st sg : Int} (h1 : 0 ≤ st ∧ st ≤ 7) (h2 : 0 ≤ sg ∧ sg < 7) : iT st sg = -1 ∨ (0 ≤ iT st sg ∧ iT st sg ≤ 7) := inL_ok _ (by omega)
theorem turn_in {c : CF} {E : List FV} {e a : FV} {v : Int} (h : a ∈ turnE c E e v) : a ∈ E ∨ (a = e.turn c v ∧ v ≠ -1) := by
 unfold turnE at h
 split at h
 · exact .inl (List.mem_filter.1 h).1
 · rename_i hv
   rcases upd_mem h with h1 | ⟨h1, _⟩
   · exact .inr ⟨h1, by simpa using hv⟩
   · exact .inl h1
theorem turn_len {c : CF} {E : List FV} {e : FV} {v : Int} : (turnE c E e v).length ≤ E.length := by
 unfold turnE
 split
 · exact List.length_filter_le _ _
 · unfold updF; rw [List.length_map]; exact Nat.le_refl _
theorem turn_tb {t M N : Nat} {c : CF} {E : List FV} {e : FV} {v : Int} (dj : Dj E) (he : e ∈ E) : ∀ q, TB t M N (turnE c E e v) q → TB t M N E q := fun q hq => by
 unfold turnE at hq
 split at hq
 · exact TB.gone q hq
 · exact TB.turned (e' := e.turn c v) (fF_mem dj he (eqP_refl _)) rfl q hq
theorem FT.turned {W : World} {t M N : Nat} {c : CF} {E : List FV} {w w' : World} (h : FT W t M N c E w) {e : FV} (he : e ∈ E) {v : Int} (hv : v = -1 ∨ (0 ≤ v ∧ v ≤ 7)) (h0 : v ≠ 0) (hT : TA w' t M N c (turnE c E e v)) (k : Ch (TB t M N E) w w') : FT W t M N c (turnE c E e v) w' := by
 refine ⟨hT, h.ok, by have := h.ln; have := turn_len (c := c) (E := E) (e := e) (v := v); omega, fun a ha => ?_, fun a ha => ?_, h.bel.trans (k.below (fun q hq => h.far q hq) h.bel.size), fun q hq => h.far q (turn_tb h.ta.dj he q hq)⟩
 · rcases turn_in ha with h1 | ⟨rfl, h1⟩
   · exact h.st a h1
   · exact ⟨by show 1 ≤ v; omega, by show v ≤ 7; omega⟩
 · rcases turn_in ha with h1 | ⟨rfl, _⟩
   · exact h.le a h1
   · have := tkN_ok h.ok e.n.x.pr v
     exact ⟨this.1, this.2⟩
theorem FT.out {W : World} {t M N : Nat} {c : CF} {E : List FV} {w : World} (h : FT W t M N c E w) (g : Gl W) (x : TU) (hx : x.Wf) (fl : Int) : Calls Tryz.prog 12 #[.pointer (some ⟨t, 0, none⟩), .agg (tuC x), .int .i64 fl] w fun r w' => ∃ er y E', r = .returned (.tuple #[.agg (tuC y), .int .i64 er]) ∧ OutR c E x fl w.heap.size er y E' ∧ FT W t M N c E' w' ∧ Ch (TB t M N E) w w' := by
 refine (out_any t M N c E w h.ta h.ok h.len h.st x hx fl (h.gl g).ot).mono ?_
 rintro r w' ⟨er, y, E', rfl, hR, hT, k⟩
 refine ⟨er, y, E', rfl, hR, ?_, k⟩
 have hb : Below W.heap.size W w' := h.bel.trans (k.below (fun q hq => h.far q hq) h.bel.size)
 have hsg := sgN_lt x.pr fl
 rcases hR with ⟨_, _, _, rfl⟩ | ⟨_, e, hf, ⟨_, _, _, rfl⟩ | ⟨hv, _, _, rfl⟩⟩ | ⟨_, hn, ⟨_, _, _, rfl⟩ | ⟨_, _, _, _, rfl⟩ | ⟨hv, hbg, _, po, P, hpo, hP, _, rfl⟩⟩
 · exact ⟨hT, h.ok, h.ln, h.st, h.le, hb, h.far⟩
 · exact ⟨hT, h.ok, h.ln, h.st, h.le, hb, h.far⟩
 · have he := (fF_some hf).1
   have hs := h.st e he
   exact h.turned he (oT_ok ⟨by have := hs.lo; omega, hs.hi⟩ hsg) hv hT k
 · exact ⟨hT, h.ok, h.ln, h.st, h.le, hb, h.far⟩
 · exact ⟨hT, h.ok, h.ln, h.st, h.le, hb, h.far⟩
 · have h0 := oT0 _ hsg.1 hsg.2
   have h1 := oT_ok (st := 0) (by omega) hsg
   have h2 : oT 0 (sgN x.pr fl) ≠ -1 := by simpa using h0
   refine ⟨hT, h.ok, ?_, fun a ha => ?_, fun a ha => ?_, hb, ?_⟩
   · have h3 := h.ln
     have h4 : (E.length : Int) ≠ c.mx := fun e => by
      unfold bgE at hbg
      have e' : ((E.length : Int) == c.mx) = true := by simpa using e
      rw [e'] at hbg
      split at hbg <;> simp at hbg
     rw [List.length_append]
     simp only [List.length_cons, List.length_nil]
     omega
   · rcases List.mem_append.1 ha with ha | ha
     · exact h.st a ha
     · simp only [List.mem_singleton] at ha
       subst ha
       exact ⟨by show 1 ≤ oT 0 (sgN x.pr fl); omega, by show oT 0 (sgN x.pr fl) ≤ 7; omega⟩
   · rcases List.mem_append.1 ha with ha | ha
     · exact h.le a ha
     · simp only [List.mem_singleton] at ha
       subst ha
       have := tkN_ok h.ok x.pr (oT 0 (sgN x.pr fl))
       exact ⟨this.1, this.2⟩
   · rintro q (hq | hq | hq | ⟨a, ha, hq⟩)
     · exact h.far q (.inl hq)
     · exact h.far q (.inr (.inl hq))
     · exact h.far q (.inr (.inr (.inl hq)))
     · rcases List.mem_append.1 ha with ha | ha
       · exact h.far q (.inr (.inr (.inr ⟨a, ha, hq⟩)))
       · simp only [List.mem_singleton] at ha
         subst ha
         have hq' : q = P := hq
         have := h.bel.size
         omega
theorem FT.inn {W : World} {t M N : Nat} {c : CF} {E : List FV} {w : World} (h : FT W t M N c E w) (g : Gl W) (x : TU) (hx : x.Wf) (fl : Int) : Calls Tryz.prog 15 #[.pointer (some ⟨t, 0, none⟩), .agg (tuC x), .int .i64 fl] w fun r w' => ∃ er y E', r = .returned (.tuple #[.agg (tuC y), .int .i64 er]) ∧ InR c E x fl er y E' ∧ FT W t M N c E' w' ∧ Ch (TB t M N E) w w' := by
 refine (in_any t M N c E w h.ta h.ok h.len h.st x hx fl (h.gl g).it).mono ?_
 rintro r w' ⟨er, y, E', rfl, hR, hT, k⟩
 refine ⟨er, y, E', rfl, hR, ?_, k⟩
 have hb : Below W.heap.size W w' := h.bel.trans (k.below (fun q hq => h.far q hq) h.bel.size)
 have hsg := sgN_lt x.pr fl
 rcases hR with ⟨_, _, _, rfl⟩ | ⟨_, _, _, _, rfl⟩ | ⟨_, e, hf, ⟨_, _, _, rfl⟩ | ⟨hv, _, _, rfl⟩⟩
 · exact ⟨hT, h.ok, h.ln, h.st, h.le, hb, h.far⟩
 · exact ⟨hT, h.ok, h.ln, h.st, h.le, hb, h.far⟩
 · exact ⟨hT, h.ok, h.ln, h.st, h.le, hb, h.far⟩
 · have he := awO_mem hf
   have hs := h.st e he
   exact h.turned he (iT_ok ⟨by have := hs.lo; omega, hs.hi⟩ hsg) hv hT k
theorem FT.tick {W : World} {t M N : Nat} {c : CF} {E : List FV} {w : World} (h : FT W t M N c E w) : Calls Tryz.prog 17 #[.pointer (some ⟨t, 0, none⟩)] w fun r w' => r = .returned (.int .i64 (endN E : Nat)) ∧ FT W t M N c (E.filterMap tk1) w' ∧ Ch (TB t M N E) w w' := by
 refine (tick_any t M N c E w h.ta h.len h.le).mono ?_
 rintro r w' ⟨rfl, hT, k⟩
 refine ⟨rfl, ⟨hT, h.ok, ?_, fun a ha => ?_, fun a ha => ?_, h.bel.trans (k.below (fun q hq => h.far q hq) h.bel.size), ?_⟩, k⟩
 · have := h.ln
   have := List.length_filterMap_le tk1 E
   omega
 · obtain ⟨e, he, h1⟩ := List.mem_filterMap.1 ha
   unfold tk1 at h1
   split at h1
   · cases h1
   · obtain rfl := Option.some.inj h1
     have := h.st e he
     exact ⟨this.lo, this.hi⟩
 · obtain ⟨e, he, h1⟩ := List.mem_filterMap.1 ha
   unfold tk1 at h1
   split at h1
   · cases h1
   · rename_i hz
     obtain rfl := Option.some.inj h1
     have := h.le e he
     have hz' : e.n.le - 1 ≠ 0 := by simpa using hz
     exact ⟨by show 1 ≤ e.n.le - 1; have := this.lo; omega, by show e.n.le - 1 ≤ 1048576; have := this.hi; omega⟩
 · rintro q (hq | hq | hq | ⟨a, ha, hq⟩)
   · exact h.far q (.inl hq)
   · exact h.far q (.inr (.inl hq))
   · exact h.far q (.inr (.inr (.inl hq)))
   · obtain ⟨e, he, h1⟩ := List.mem_filterMap.1 ha
     exact h.far q (.inr (.inr (.inr ⟨e, he, by rw [hq, (tk1_x h1).2]⟩)))
theorem FT.lens {W : World} {t M N : Nat} {c : CF} {E : List FV} {w : World} (h : FT W t M N c E w) : Calls Tryz.prog 8 #[.pointer (some ⟨t, 0, none⟩)] w fun r w' => r = .returned (.int .i64 (E.length : Nat)) ∧ w = w' := len_any t M N c E w h.ta
theorem FT.dump {W : World} {t M N : Nat} {c : CF} {E : List FV} {w : World} (h : FT W t M N c E w) : Calls Tryz.prog 19 #[.pointer (some ⟨t, 0, none⟩)] w fun r w' => ∃ v S, r = .returned v ∧ DumpR E S ∧ FL w' w.heap.size v S ∧ (∃ g cc, v = .slice (some ⟨g, 0, none⟩) S.length cc) ∧ Below w.heap.size w w' := dump_any t M N c E w h.ta h.len
end Go.Proofs.YtclpeepnngegaaaGreatDoor
namespace Go.Proofs.YtclpeepnngegaaaGreatDoor
open Go.RowKit Go.Maps
def sB (s : ByteArray) (i : Nat) : Nat := (s.data.toList.getD i 0).toNat
theorem sB_lt (s : ByteArray) (i : Nat) : sB s i < 256 := UInt8.toNat_lt _
theorem sB_get (s : ByteArray) (i : Nat) (h : i < s.size) : sB s i = (s[i]'h).toNat := by
 unfold sB
 congr 1
 have h2 : i < s.data.size := h
 rw [List.getD_eq_getElem?_getD, Array.getElem?_toList, Array.getElem?_eq_getElem h2]
 rfl
theorem wpList_sB {ops : Array Oper} {rest : List Oper} {o : Oper} {a : Act} {w : World} {Q : Exit → Act → World → Prop} (x y : Operand) (ho : o.op = .index 9 x y) (s : ByteArray) (p : Nat) (z : Int) (hx : a.eval x = .string s) (hy : a.eval y = .int .i64 z) (hz : z = (p : Int)) (hp : p < s.size) (hw : Region.wanted o (yielded ops a.tmps) = true)
 (h : wpList Tryz.prog ops Q rest (a.put o.dst (.int .u8 (sB s p : Nat))) w) : wpList Tryz.prog ops Q (o :: rest) a w := by
 refine wpList_step fun K hK => ?_
 rw [if_pos hw]
 have hrun : (execOp a.eval o).run Tryz.prog w = .ok (.value (.int .u8 (sB s p : Nat))) w := by
  obtain ⟨dst, op, type, pos, after, guard⟩ := o
  simp only at ho
  subst ho
  simp only [execOp, Sem.run_bind, hx, hy, hz]
  rw [run_index_string w 9 s .i64 (p : Int) Tryz.underlying9, dif_pos (by omega)]
  simp only [Result.andThen_ok, Int.toNat_natCast, sB_get s p hp]
  rfl
 unfold Oper.wp
 rw [hrun]
 exact hK _ _ h
def dgB (c : Nat) : Bool := decide (48 ≤ c) && decide (c ≤ 57)
set_option maxHeartbeats 1600000 in
set_option maxRecDepth 100000 in
theorem digit_any (c : Nat) (w : World) : Calls Tryz.prog 83 #[.int .u8 (c : Nat)] w fun r w' => r = .returned (.bool (dgB c)) ∧ w = w' := by
 go_enter Tryz.func83, Tryz.ntmps83
 by_cases h1 : 48 ≤ c
 · have q1 : decide ((48 : Int) ≤ (c : Int)) = true := decide_eq_true (by omega)
   have q0 : decide (48 ≤ c) = true := decide_eq_true h1
   go_wp2
   go_ret
   exact ⟨by simp [dgB, q0]; try omega, rfl⟩
 · have q1 : decide ((48 : Int) ≤ (c : Int)) = false := decide_eq_false (by omega)
   have q0 : decide (48 ≤ c) = false := decide_eq_false h1
   go_wp2
   go_ret
   exact ⟨by simp [dgB, q0], rfl⟩
def wth (c : Nat) : Int := if dgB c then (c : Int) - 48 else if decide (97 ≤ c) && decide (c ≤ 102) then (c : Int) - 97 + 10 else if decide (65 ≤ c) && decide (c ≤ 70) then (c : Int) - 65 + 10 else -1
theorem u8_s (a : Int) (h1 : 0 ≤ a) (h2 : a < 256) : IntKind.u8.wrap a = a := by
 have : IntKind.u8.wrap a = a % 256 := rfl
 rw [this]; omega
set_option maxHeartbeats 1600000 in
set_option maxRecDepth 100000 in
theorem worth_any (c : Nat) (w : World) (hc : c < 256) : Calls Tryz.prog 104 #[.int .u8 (c : Nat)] w fun r w' => r = .returned (.int .i64 (wth c)) ∧ w = w' := by
 obtain ⟨b, hb⟩ : ∃ b, dgB c = b := ⟨_, rfl⟩
 have HB : Hid (dgB c = b) := hb
 go_enter Tryz.func104, Tryz.ntmps104
 go_wp2_with fail
 refine (digit_any c w).mono ?_
 rintro e w1 ⟨rfl, rfl⟩
 rw [hb]
 clear hb
 cases b with
 | true =>
  have h1 : 48 ≤ c ∧ c ≤ 57 := by have := HB.out; simp [dgB] at this; exact this
  have w1 : IntKind.u8.wrap ((c : Int) - 48) = (c : Int) - 48 := u8_s _ (by omega) (by omega)
  have w2 : IntKind.i64.wrap ((c : Int) - 48) = (c : Int) - 48 := i64_s _ (by omega) (by omega)
  go_wp2
  go_ret
  exact ⟨by unfold wth; rw [HB.out]; rfl, rfl⟩
 | false =>
  by_cases h1 : 97 ≤ c ∧ c ≤ 102
  · have q1 : decide ((97 : Int) ≤ (c : Int)) = true := decide_eq_true (by omega)
    have q2 : decide ((c : Int) ≤ 102) = true := decide_eq_true (by omega)
    have w1 : IntKind.u8.wrap ((c : Int) - 97) = (c : Int) - 97 := u8_s _ (by omega) (by omega)
    have w2 : IntKind.i64.wrap ((c : Int) - 97) = (c : Int) - 97 := i64_s _ (by omega) (by omega)
    have w3 : IntKind.i64.wrap ((c : Int) - 97 + 10) = (c : Int) - 97 + 10 := i64_s _ (by omega) (by omega)
    have HR : Hid (wth c = (c : Int) - 97 + 10) := by show _ = _; unfold wth; rw [HB.out]; simp [h1]
    clear h1 hc
    go_wp2
    go_ret
    exact ⟨by rw [HR.out]; rfl, rfl⟩
  · have q3 : (decide ((97 : Int) ≤ (c : Int)) && decide ((c : Int) ≤ 102)) = false := by simp; omega
    have HN : Hid ((decide (97 ≤ c) && decide (c ≤ 102)) = false) := by show _ = false; simp; omega
    have hcut : (if decide ((97 : Int) ≤ (c : Int)) then decide ((c : Int) ≤ 102) else false) = false := by by_cases q : (97 : Int) ≤ (c : Int) <;> simp [q] <;> omega
    by_cases h2 : 65 ≤ c ∧ c ≤ 70
    · have q1 : decide ((65 : Int) ≤ (c : Int)) = true := decide_eq_true (by omega)
      have q2 : decide ((c : Int) ≤ 70) = true := decide_eq_true (by omega)
      have q4 : decide ((97 : Int) ≤ (c : Int)) = false := decide_eq_false (by omega)
      have w1 : IntKind.u8.wrap ((c : Int) - 65) = (c : Int) - 65 := u8_s _ (by omega) (by omega)
      have w2 : IntKind.i64.wrap ((c : Int) - 65) = (c : Int) - 65 := i64_s _ (by omega) (by omega)
      have w3 : IntKind.i64.wrap ((c : Int) - 65 + 10) = (c : Int) - 65 + 10 := i64_s _ (by omega) (by omega)
      have HR : Hid (wth c = (c : Int) - 65 + 10) := by show _ = _; unfold wth; rw [HB.out, HN.out]; simp [h2]
      clear h1 h2 hc q3 hcut
      go_wp2
      go_ret
      exact ⟨by rw [HR.out]; rfl, rfl⟩
    · have HR : Hid (wth c = -1) := by
       show _ = _; unfold wth; rw [HB.out, HN.out]
       have : (decide (65 ≤ c) && decide (c ≤ 70)) = false := by simp; omega
       rw [this]; rfl
      by_cases h3 : 97 ≤ c
      · have q1 : decide ((97 : Int) ≤ (c : Int)) = true := decide_eq_true (by omega)
        have q2 : decide ((c : Int) ≤ 102) = false := decide_eq_false (by omega)
        have q5 : decide ((65 : Int) ≤ (c : Int)) = true := decide_eq_true (by omega)
        have q6 : decide ((c : Int) ≤ 70) = false := decide_eq_false (by omega)
        clear h1 h2 h3 hc q3 hcut
        go_wp2
        go_ret
        exact ⟨by rw [HR.out]; rfl, rfl⟩
      · have q1 : decide ((97 : Int) ≤ (c : Int)) = false := decide_eq_false (by omega)
        by_cases h4 : 65 ≤ c
        · have q5 : decide ((65 : Int) ≤ (c : Int)) = true := decide_eq_true (by omega)
          have q6 : decide ((c : Int) ≤ 70) = false := decide_eq_false (by omega)
          clear h1 h2 h3 h4 hc q3 hcut
          go_wp2
          go_ret
          exact ⟨by rw [HR.out]; rfl, rfl⟩
        · have q5 : decide ((65 : Int) ≤ (c : Int)) = false := decide_eq_false (by omega)
          clear h1 h2 h3 h4 hc q3 hcut
          go_wp2
          go_ret
          exact ⟨by rw [HR.out]; rfl, rfl⟩
def hrE (s : ByteArray) (p : Nat) : Nat × Nat := if s.size ≤ p then (42, s.size) else (41, p)
set_option maxHeartbeats 1600000 in
set_option maxRecDepth 100000 in
theorem here_any (s : ByteArray) (p : Nat) (w : World) : Calls Tryz.prog 84 #[.string s, .int .i64 (p : Nat)] w fun r w' => r = .returned (.tuple #[.int .i64 ((hrE s p).1 : Nat), .int .i64 ((hrE s p).2 : Nat)]) ∧ w = w' := by
 go_enter Tryz.func84, Tryz.ntmps84
 by_cases h1 : s.size ≤ p
 · have q1 : decide ((s.size : Int) ≤ (p : Int)) = true := decide_eq_true (by omega)
   have HR : Hid (hrE s p = (42, s.size)) := by show _ = _; unfold hrE; rw [if_pos h1]
   go_wp2
   refine bodyPost_ret (results_tmp2 rfl _ _ _) rfl ?_
   exact ⟨by rw [HR.out]; rfl, rfl⟩
 · have q1 : decide ((s.size : Int) ≤ (p : Int)) = false := decide_eq_false (by omega)
   have HR : Hid (hrE s p = (41, p)) := by show _ = _; unfold hrE; rw [if_neg h1]
   go_wp2
   refine bodyPost_ret (results_tmp2 rfl _ _ _) rfl ?_
   exact ⟨by rw [HR.out]; rfl, rfl⟩
def hsB (s : ByteArray) (c : Nat) : Bool := (List.range s.size).any fun i => sB s i == c
theorem hsB_true {s : ByteArray} {c k : Nat} (h : k < s.size) (e : sB s k = c) : hsB s c = true := by
 unfold hsB
 rw [List.any_eq_true]
 exact ⟨k, List.mem_range.2 h, by simp [e]⟩
theorem hsB_false {s : ByteArray} {c : Nat} (h : ∀ i, i < s.size → sB s i ≠ c) : hsB s c = false := by
 unfold hsB
 rw [List.any_eq_false]
 intro i hi
 simp [h i (List.mem_range.1 hi)]
set_option maxHeartbeats 1600000 in
set_option maxRecDepth 100000 in
theorem hasT_any (s : ByteArray) (c : Nat) (w : World) (hs : s.size ≤ 100000) : Calls Tryz.prog 95 #[.string s, .int .u8 (c : Nat)] w fun r w' => r = .returned (.bool (hsB s c)) ∧ w = w' := by
 have HS : Hid (s.size ≤ 100000) := hs
 clear hs
 go_enter Tryz.func95, Tryz.ntmps95
 go_wp2
 go_loopw [5] (fun ix wr => ∃ k : Nat, k ≤ s.size ∧ ix = .int .i64 k ∧ (∀ i, i < k → sB s i ≠ c) ∧ w = wr) (fun ix _ => s.size - (intOf ix).toNat)
 case atStart => exact ⟨0, by omega, rfl, fun i hi => by omega, rfl⟩
 case round =>
  obtain ⟨k, hk, rfl, hN, rfl⟩ := hrel
  have HN : Hid (∀ i, i < k → sB s i ≠ c) := hN
  clear hN
  by_cases hlt : k < s.size
  · have q1 : decide ((k : Int) < (s.size : Int)) = true := decide_eq_true (by omega)
    have q0 : decide (k < s.size) = true := decide_eq_true hlt
    have w1 : IntKind.i64.wrap ((k : Int) + 1) = (k : Int) + 1 := i64_s _ (by omega) (by have := HS.out; omega)
    by_cases he : sB s k = c
    · have qe : decide (((sB s k : Nat) : Int) = (c : Int)) = true := decide_eq_true (by omega)
      have qf : (((sB s k : Nat) : Int) == (c : Int)) = true := by simp [he]
      have HR : Hid (hsB s c = true) := hsB_true hlt he
      have HLT : Hid (k < s.size) := hlt
      clear he hlt hk
      go_wp2_with (refine wpList_sB (.tmp 12) (.tmp 13) rfl s k _ rfl rfl rfl HLT.out rfl ?_)
      go_ret
      exact ⟨by rw [HR.out]; rfl, rfl⟩
    · have qe : decide (((sB s k : Nat) : Int) = (c : Int)) = false := decide_eq_false (by omega)
      have qf : (((sB s k : Nat) : Int) == (c : Int)) = false := by simp; omega
      have HLT : Hid (k < s.size) := hlt
      have HE : Hid (sB s k ≠ c) := he
      clear he hlt hk
      go_wp2_with (refine wpList_sB (.tmp 12) (.tmp 13) rfl s k _ rfl rfl rfl HLT.out rfl ?_)
      go_roundw
      case rel => exact ⟨k + 1, HLT.out, by simp, fun i hi => if h : i = k then h ▸ HE.out else HN.out i (by omega), by first | rfl | trivial⟩
      case measure => have := HLT.out; simp [intOf]; omega
  · have q1 : decide ((k : Int) < (s.size : Int)) = false := decide_eq_false (by omega)
    have q0 : decide (k < s.size) = false := decide_eq_false hlt
    have HR : Hid (hsB s c = false) := hsB_false (fun i hi => HN.out i (by omega))
    clear hlt hk
    go_wp2
    go_ret
    exact ⟨by rw [HR.out]; rfl, rfl⟩
theorem beq58 (a : Nat) : (((a : Int)) == 58) = (a == 58) := by rw [Bool.eq_iff_iff]; simp; omega
def twB (s : ByteArray) (p : Nat) : Bool := decide (p + 1 < s.size) && sB s p == 58 && sB s (p + 1) == 58
set_option maxHeartbeats 1600000 in
set_option maxRecDepth 100000 in
theorem two_any (s : ByteArray) (p : Nat) (w : World) (hs : p ≤ 100000) : Calls Tryz.prog 100 #[.string s, .int .i64 (p : Nat)] w fun r w' => r = .returned (.bool (twB s p)) ∧ w = w' := by
 have w1 : IntKind.i64.wrap ((p : Int) + 1) = (p : Int) + 1 := i64_s _ (by omega) (by omega)
 clear hs
 go_enter Tryz.func100, Tryz.ntmps100
 by_cases h1 : p + 1 < s.size
 · have q1 : decide ((p : Int) + 1 < (s.size : Int)) = true := decide_eq_true (by omega)
   have H1 : Hid (p + 1 < s.size) := h1
   have H0 : Hid (p < s.size) := Nat.lt_of_succ_lt h1
   clear h1
   by_cases h2 : sB s p = 58
   · have q2 : (((sB s p : Nat) : Int) == 58) = true := by simp [h2]
     have q2' : decide (((sB s p : Nat) : Int) = 58) = true := decide_eq_true (by omega)
     have HR : Hid (twB s p = (sB s (p + 1) == 58)) := by show _ = _; unfold twB; rw [decide_eq_true H1.out, h2]; rfl
     have HE1 : Hid ((p : Int) + 1 = ((p + 1 : Nat) : Int)) := by show _ = _; omega
     clear h2
     go_wp2_with (first | (refine wpList_sB (.tmp 11) (.tmp 12) rfl s p _ rfl rfl rfl H0.out rfl ?_) | (refine wpList_sB (.tmp 17) (.tmp 19) rfl s (p + 1) _ rfl rfl HE1.out H1.out rfl ?_))
     go_ret
     exact ⟨by rw [HR.out, ← beq58]; rfl, rfl⟩
   · have q2 : (((sB s p : Nat) : Int) == 58) = false := by simp; omega
     have q2' : decide (((sB s p : Nat) : Int) = 58) = false := decide_eq_false (by omega)
     have HR : Hid (twB s p = false) := by show _ = _; unfold twB; simp [h2]
     clear h2
     go_wp2_with (first | (refine wpList_sB (.tmp 11) (.tmp 12) rfl s p _ rfl rfl rfl H0.out rfl ?_))
     go_ret
     exact ⟨by rw [HR.out]; rfl, rfl⟩
 · have q1 : decide ((p : Int) + 1 < (s.size : Int)) = false := decide_eq_false (by omega)
   have HR : Hid (twB s p = false) := by show _ = _; unfold twB; rw [decide_eq_false h1]; rfl
   clear h1
   go_wp2
   go_ret
   exact ⟨by rw [HR.out]; rfl, rfl⟩
end Go.Proofs.YtclpeepnngegaaaGreatDoor
