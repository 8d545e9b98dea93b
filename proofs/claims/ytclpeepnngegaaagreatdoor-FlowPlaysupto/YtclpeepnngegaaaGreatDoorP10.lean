/-
  FlFn7: lemmas of the proof of FlowPlays, and walks through the functions that it calls.
-/
import Derived.Test.YtclpeepnngegaaaGreatDoorP00
import Derived.Test.YtclpeepnngegaaaGreatDoorP09
namespace Go.Proofs.YtclpeepnngegaaaGreatDoor
open Go.RowKit Go.Maps
def outL : List Int := [0, 1, 0, 0, 0, 0, 7, 0, 1, 0, 0, -1, 0, 0, 3, 2, 0, 4, -1, 0, 0, 3, 0, 0, 4, -1, 0, 0, 4, 0, 0, 4, -1, 0, 0, 5, 0, 0, 6, -1, 0, 0, 6, 1, 0, 6, -1, 0, 0, 0, 0, 0, 0, 0, 0, 7]
def oT (st sg : Int) : Int := outL.getD (st.toNat * 7 + sg.toNat) 0
def oTb (w : World) : Prop := w.rangeAt 0 0 (outL.map (Value.int .i64))
theorem oTb.lt {w : World} (h : oTb w) : 0 < w.heap.size := World.block_lt_of_cell? w _ (h 0 _ rfl)
theorem oTb.old {w w' : World} (h : oTb w) (hb : Below w.heap.size w w') : oTb w' := fun j v hv => (hb.cell (p := ⟨0, 0 + j, none⟩) h.lt).trans (h j v hv)
theorem oTb.at {w : World} (h : oTb w) (s g : Nat) (hs : s < 8) (hg : g < 7) : w.cell? ⟨0, s * 7 + g, none⟩ = some (.int .i64 (oT s g)) := by
 have hk : s * 7 + g < outL.length := by show s * 7 + g < 56; omega
 have := h (s * 7 + g) (.int .i64 (oT s g)) (by
  rw [List.getElem?_map, List.getElem?_eq_getElem hk]
  unfold oT
  simp [List.getD, hk])
 rw [Nat.zero_add] at this
 exact this
def inL : List Int := [0, 0, 0, 0, 0, 0, 0, 0, 0, 2, 0, -1, 0, 0, 2, 0, 2, 5, -1, 0, 0, 3, 0, 0, 5, -1, 0, 0, 4, 0, 0, 6, -1, 0, 0, 5, 0, 0, 5, -1, 0, 0, 6, 0, 0, 6, -1, 0, 0, 0, 0, 0, 0, 0, 0, 7]
def iT (st sg : Int) : Int := inL.getD (st.toNat * 7 + sg.toNat) 0
def iTb (w : World) : Prop := w.rangeAt 1 0 (inL.map (Value.int .i64))
theorem iTb.lt {w : World} (h : iTb w) : 1 < w.heap.size := World.block_lt_of_cell? w _ (h 0 _ rfl)
theorem iTb.old {w w' : World} (h : iTb w) (hb : Below w.heap.size w w') : iTb w' := fun j v hv => (hb.cell (p := ⟨1, 0 + j, none⟩) h.lt).trans (h j v hv)
theorem iTb.at {w : World} (h : iTb w) (s g : Nat) (hs : s < 8) (hg : g < 7) : w.cell? ⟨1, s * 7 + g, none⟩ = some (.int .i64 (iT s g)) := by
 have hk : s * 7 + g < inL.length := by show s * 7 + g < 56; omega
 have := h (s * 7 + g) (.int .i64 (iT s g)) (by
  rw [List.getElem?_map, List.getElem?_eq_getElem hk]
  unfold iT
  simp [List.getD, hk])
 rw [Nat.zero_add] at this
 exact this
theorem run_buildtu0 (w : World) : (Instr.build 38 #[]).run Tryz.prog w = .ok (.agg (tuC xz)) w := by kernel_rfl
theorem wpList_build_tu0 {ops : Array Oper} {rest : List Oper} {o : Oper} {a : Act} {w : World} {Q : Exit → Act → World → Prop} (ho : o.op = .build 38 #[]) (hw : Region.wanted o (yielded ops a.tmps) = true)
 (h : wpList Tryz.prog ops Q rest (a.put o.dst (.agg (tuC xz))) w) : wpList Tryz.prog ops Q (o :: rest) a w := by
 refine wpList_step fun K hK => ?_
 rw [if_pos hw]
 have hrun : (execOp a.eval o).run Tryz.prog w = .ok (.value (.agg (tuC xz))) w := by
  obtain ⟨dst, op, type, pos, after, guard⟩ := o
  simp only at ho
  subst ho
  simp only [execOp, Sem.run_bind, List.map_toArray, List.map_nil, run_buildtu0 w, Result.andThen_ok]
  rfl
 unfold Oper.wp
 rw [hrun]
 exact hK _ _ h
theorem run_buildfl (x : TU) (w : World) : (Instr.build 72 #[(0, .agg (tuC x)), (2, .int .i64 0)]).run Tryz.prog w = .ok (.agg (flC ⟨x, 0, 0, 0⟩)) w := by kernel_rfl
theorem wpList_build_fl {ops : Array Oper} {rest : List Oper} {o : Oper} {a : Act} {w : World} {Q : Exit → Act → World → Prop} (y0 y1 : Operand) (ho : o.op = .build 72 #[(0, y0), (2, y1)]) (x : TU) (f : FN) (hf : f = ⟨x, 0, 0, 0⟩) (h0 : a.eval y0 = .agg (tuC x)) (h1 : a.eval y1 = .int .i64 0) (hw : Region.wanted o (yielded ops a.tmps) = true)
 (h : wpList Tryz.prog ops Q rest (a.put o.dst (.agg (flC f))) w) : wpList Tryz.prog ops Q (o :: rest) a w := by
 refine wpList_step fun K hK => ?_
 rw [if_pos hw]
 have hrun : (execOp a.eval o).run Tryz.prog w = .ok (.value (.agg (flC f))) w := by
  subst hf
  obtain ⟨dst, op, type, pos, after, guard⟩ := o
  simp only at ho
  subst ho
  simp only [execOp, Sem.run_bind, List.map_toArray, List.map_cons, List.map_nil, h0, h1, run_buildfl x w, Result.andThen_ok]
  rfl
 unfold Oper.wp
 rw [hrun]
 exact hK _ _ h
theorem results_tup_tmp {fn : Func} {p u : Tmp} (h : fn.results = #[.cell p 38, .tmp u]) (tmps : Array Value) (w : World) (O : Nat) (x : TU) (hp : tmps.getD p undef = .pointer (some ⟨O, 0, none⟩)) (hb : TupAt w O x) :
 (results fn tmps).run Tryz.prog w = .ok (.tuple #[.agg (tuC x), tmps.getD u undef]) w := by
 have hp' : tmps[p]?.getD undef = .pointer (some ⟨O, 0, none⟩) := by simpa using hp
 simp [results, h, hp', asAddr, run_loadVar_row w O _ 38 (tuC x) _ _ hb Tryz.underlying38 rfl Tryz.size_tup]
structure StOk (e : FV) : Prop where
  lo : 1 ≤ e.n.st
  hi : e.n.st ≤ 7
def OutR (c : CF) (E : List FV) (x : TU) (fl : Int) (B : Nat) (er : Int) (y : TU) (E' : List FV) : Prop :=
 (ckE x ≠ 0 ∧ er = ckE x ∧ y = xz ∧ E' = E) ∨
 (ckE x = 0 ∧ ∃ e, fF E x = some e ∧ ((oT e.n.st (sgN x.pr fl) = 0 ∧ er = 173 ∧ y = xz ∧ E' = E) ∨ (oT e.n.st (sgN x.pr fl) ≠ 0 ∧ er = 0 ∧ y = ouT c e.n ∧ E' = turnE c E e (oT e.n.st (sgN x.pr fl))))) ∨
 (ckE x = 0 ∧ fF E x = none ∧ ((oT 0 (sgN x.pr fl) = 0 ∧ er = 173 ∧ y = xz ∧ E' = E) ∨ (oT 0 (sgN x.pr fl) ≠ 0 ∧ bgE c E x ≠ 0 ∧ er = bgE c E x ∧ y = xz ∧ E' = E) ∨
  (oT 0 (sgN x.pr fl) ≠ 0 ∧ bgE c E x = 0 ∧ er = 0 ∧ ∃ po P, fpO c E x = some po ∧ B ≤ P ∧ y = ouT c ⟨x, po, 0, 0⟩ ∧ E' = E ++ [⟨⟨x, po, oT 0 (sgN x.pr fl), tkN c x.pr (oT 0 (sgN x.pr fl))⟩, P⟩])))
theorem ckE_tp {x : TU} (h : ckE x = 0) : tpB x = true := by
 unfold ckE at h
 cases hb : tpB x with
 | true => rfl
 | false => rw [hb] at h; cases h
theorem ouT_same (c : CF) {f g : FN} (h1 : f.x = g.x) (h2 : f.po = g.po) : ouT c f = ouT c g := by unfold ouT; rw [h1, h2]
theorem oT0 (sg : Int) (h1 : 0 ≤ sg) (h2 : sg < 7) : (oT 0 sg == -1) = false := by
 have : sg = 0 ∨ sg = 1 ∨ sg = 2 ∨ sg = 3 ∨ sg = 4 ∨ sg = 5 ∨ sg = 6 := by omega
 rcases this with rfl | rfl | rfl | rfl | rfl | rfl | rfl <;> rfl
theorem upd_new {E : List FV} {x : TU} {e e' : FV} (hn : fF E x = none) (he : e.n.x = x) : updF (E ++ [e]) x e' = E ++ [e'] := by
 unfold updF
 rw [List.map_append]
 congr 1
 · conv => rhs; rw [← List.map_id E]
   apply List.map_congr_left
   intro a ha
   rw [fF_none hn a ha]
   rfl
 · simp only [List.map_cons, List.map_nil]
   rw [he, eqP_refl]
   rfl
set_option maxHeartbeats 1600000 in
set_option maxRecDepth 100000 in
theorem out_any (t M N : Nat) (c : CF) (E : List FV) (w : World) (h : TA w t M N c E) (hc : CfOk c) (hl : E.length ≤ 4096) (hst : ∀ e ∈ E, StOk e) (x : TU) (hx : x.Wf) (fl : Int) (hT : oTb w) : Calls Tryz.prog 12 #[.pointer (some ⟨t, 0, none⟩), .agg (tuC x), .int .i64 fl] w fun r w' => ∃ er y E', r = .returned (.tuple #[.agg (tuC y), .int .i64 er]) ∧ OutR c E x fl w.heap.size er y E' ∧ TA w' t M N c E' ∧ Ch (TB t M N E) w w' := by
 have HH : Hid (TA w t M N c E ∧ CfOk c ∧ E.length ≤ 4096 ∧ (∀ e ∈ E, StOk e) ∧ x.Wf ∧ oTb w) := ⟨h, hc, hl, hst, hx, hT⟩
 clear h hc hl hst hx hT
 obtain ⟨sg, hsg⟩ : ∃ sg : Nat, sgN x.pr fl = (sg : Int) := ⟨(sgN x.pr fl).toNat, by have := sgN_lt x.pr fl; omega⟩
 have HSG : Hid (sgN x.pr fl = (sg : Int) ∧ sg < 7) := ⟨hsg, by have := sgN_lt x.pr fl; omega⟩
 have g0 : (0 : Int) ≤ (sg : Int) := by omega
 have g1 : (sg : Int) < 7 := by have := HSG.out.2; omega
 have g2 : ((sg : Int)).toNat = sg := by omega
 clear hsg
 obtain ⟨W, B, HSZX, HOX, HLX, HWX, hb⟩ := zBx w (tuC x) 38
 have HBX : Hid (TupAt W B x) := hb
 obtain ⟨CX, hC⟩ : ∃ C, C = tuC x := ⟨_, rfl⟩
 rw [← hC] at HWX ⊢
 clear hb hC
 obtain ⟨Y, O, -, HOY, HLY, HEY, hb⟩ := zBx W (tuC xz) 38
 have HNY : Hid (TupAt Y O xz) := hb
 clear hb
 have HOB : Hid (w.heap.size = B ∧ B < O) := by have h1 := HSZX.out; have h2 := HOY.out; have h3 := HOX.out; exact ⟨h3, by omega⟩
 have H1 : Hid (TA Y t M N c E ∧ TupAt Y B x ∧ TupAt Y O xz ∧ Below w.heap.size w Y) := ⟨(HH.out.1.below HLX.out).below HLY.out, HBX.out.below HLY.out, HNY.out, bthen HLX.out HLY.out⟩
 have QC : Hid _ := check_any x Y HH.out.2.2.2.2.1
 obtain ⟨ck, hck⟩ : ∃ ck, ckE x = ck := ⟨_, rfl⟩
 rw [hck] at QC
 have HCK : Hid (ckE x = ck) := hck
 clear hck
 go_enter Tryz.func12, Tryz.ntmps12
 go_wp2_with (first | (rw [HOX.out, HWX.out]; refine wpList_alloc_tup rfl rfl ?_; rw [HEY.out, HOY.out]) | (refine wpList_load_tup (.tmp 4) rfl B x rfl H1.out.2.1 rfl ?_))
 refine Calls.mono QC.out ?_
 rintro e0 w2 ⟨rfl, b2⟩
 have H2 : Hid (TA w2 t M N c E ∧ TupAt w2 B x ∧ TupAt w2 O xz ∧ Below w.heap.size w w2) := ⟨H1.out.1.below b2, H1.out.2.1.below b2, H1.out.2.2.1.below b2, bthen H1.out.2.2.2 b2⟩
 clear b2 QC H1
 by_cases h0 : ck = 0
 · subst h0
   go_upto_region 4 with fail
   obtain ⟨pv, hpv⟩ : ∃ pv, ptF (fF E x) = pv := ⟨_, rfl⟩
   have HPV : Hid (ptF (fF E x) = pv) := hpv
   clear hpv
   go_cut [9] (fun v wx => v = pv ∧ Hid (TA wx t M N c E ∧ TupAt wx B x ∧ TupAt wx O xz ∧ Below w.heap.size w wx))
   case first =>
    refine MixH.start (fun A => TA A t M N c E ∧ TupAt A B x) (by kernel_rfl) ?_
    obtain ⟨wA, hwA⟩ : ∃ wA, wA = w2.drew := ⟨_, rfl⟩
    have bdr := zDr hwA
    have HE : Hid (TA wA t M N c E ∧ TupAt wA B x ∧ TupAt wA O xz ∧ Below w.heap.size w wA) := ⟨H2.out.1.below bdr, H2.out.2.1.below bdr, H2.out.2.2.1.below bdr, bthen H2.out.2.2.2 bdr⟩
    have hS : TA wA t M N c E ∧ TupAt wA B x := ⟨HE.out.1, HE.out.2.1⟩
    rw [← hwA]
    clear hwA bdr
    refine MixH.tks [true, true, true] 4 hS (fun K hK => ?_)
    simp only [Mix.pick]
    repeat (go_big_quiet_step (fail))
    refine wpQuiet_nil (hK _ ?_)
    clear hK K
    refine MixH.tk 3 3 rfl (.map (some M)) (yields_map (.tmp 20) rfl ⟨t, 25, none⟩ (.map (some M)) rfl rfl (fun A hA => TblAt.mp hA.1.cb)) hS (fun a' ha => ?_)
    simp only [zP1, zP2, zP3, zP4] at ha
    subst ha
    refine MixH.tk 2 4 rfl (.agg (tuC x)) (yields_tup (.tmp 4) rfl B 0 x rfl rfl (fun A hA => hA.2.all)) hS (fun a' ha => ?_)
    simp only [zP1, zP2, zP3, zP4] at ha
    subst ha
    refine MixH.tk 1 5 rfl (pv) (yields_look (.tmp 21) (.tmp 22) rfl t M N c E x HH.out.2.2.2.2.1 rfl rfl pv HPV.out rfl (fun A hA => hA.1)) hS (fun a' ha => ?_)
    simp only [zP1, zP2, zP3, zP4] at ha
    subst ha
    refine MixH.tks [false, false, false, false, false, false, true] 0 hS (fun K hK => ?_)
    simp only [Mix.pick]
    repeat (go_big_quiet_step (fail))
    refine wpQuiet_nil (hK _ ?_)
    clear hK K
    refine MixH.done (by kernel_rfl) ?_
    clear hS
    go_wp2
    go_meet
    exact ⟨rfl, HE⟩
   case rest =>
    obtain ⟨rfl, H3⟩ := hcut
    clear H2
    cases hf : fF E x with
    | some e =>
     rw [hf] at HPV
     have hv := HPV.out
     simp only [ptF] at hv
     subst hv
     have HFS : Hid (fF E x = some e ∧ e ∈ E) := ⟨hf, (fF_some hf).1⟩
     clear hf
     obtain ⟨s, hs⟩ : ∃ s : Nat, e.n.st = (s : Int) := ⟨e.n.st.toNat, by have := HH.out.2.2.2.1 e HFS.out.2; have := this.lo; omega⟩
     have HSTE : Hid (e.n.st = (s : Int)) := hs
     have HST : Hid (s < 8) := by have h1 := HH.out.2.2.2.1 e HFS.out.2; have := h1.hi; show s < 8; omega
     have s0 : (0 : Int) ≤ (s : Int) := by omega
     have s1 : (s : Int) < 8 := by have := HST.out; omega
     have s2 : ((s : Int)).toNat = s := by omega
     have s3 : ((s : Int) == 0) = false := by have h1 := HH.out.2.2.2.1 e HFS.out.2; have := h1.lo; simp; omega
     clear hs
     obtain ⟨v, hvv⟩ : ∃ v, v = oT s sg := ⟨_, rfl⟩
     have HVV : Hid (v = oT s sg) := hvv
     have HVE : Hid (oT e.n.st (sgN x.pr fl) = v) := by show _ = _; rw [HSTE.out, HSG.out.1, hvv]
     clear hvv
     have HP7 : Hid (TA wc t M N c E ∧ TupAt wc B x ∧ TupAt wc O xz ∧ Below w.heap.size w wc ∧ FloAt wc e.P e.n) := ⟨H3.out.1, H3.out.2.1, H3.out.2.2.1, H3.out.2.2.2, H3.out.1.en e HFS.out.2⟩
     go_upto_region 7 with fail
     refine MixH.start (fun A => TA A t M N c E ∧ TupAt A B x ∧ A.cell? ⟨e.P, 38, none⟩ = some (.int .i64 (s : Nat)) ∧ oTb A) (by kernel_rfl) ?_
     obtain ⟨wA7, hwA⟩ : ∃ wA, wA = wc.drew := ⟨_, rfl⟩
     have bdr := zDr hwA
     have HA7 : Hid (TA wA7 t M N c E ∧ TupAt wA7 B x ∧ TupAt wA7 O xz ∧ Below w.heap.size w wA7 ∧ FloAt wA7 e.P e.n) := ⟨HP7.out.1.below bdr, HP7.out.2.1.below bdr, HP7.out.2.2.1.below bdr, bthen HP7.out.2.2.2.1 bdr, HP7.out.2.2.2.2.below bdr⟩
     have hS : TA wA7 t M N c E ∧ TupAt wA7 B x ∧ wA7.cell? ⟨e.P, 38, none⟩ = some (.int .i64 (s : Nat)) ∧ oTb wA7 := ⟨HA7.out.1, HA7.out.2.1, by rw [HA7.out.2.2.2.2.c38, HSTE.out], HH.out.2.2.2.2.2.old HA7.out.2.2.2.1⟩
     have QS : Hid _ := segment_any x.pr fl wA7
     rw [HSG.out.1] at QS
     rw [← hwA]
     clear hwA bdr
     refine MixH.tks [true, true, true, false, true, false, true] 7 hS (fun K hK => ?_)
     simp only [Mix.pick]
     repeat (go_big_quiet_step (fail))
     refine wpQuiet_nil (hK _ ?_)
     clear hK K
     refine MixH.tk 6 3 rfl (.int .i64 (s : Nat)) (yields_int (.tmp 31) rfl ⟨e.P, 38, none⟩ (.int .i64 (s : Nat)) rfl rfl (fun A hA => hA.2.2.1)) hS (fun a' ha => ?_)
     simp only [zP1, zP2, zP3, zP4] at ha
     subst ha
     refine MixH.tks [false, false, false, false, false, false, false, false, true] 5 hS (fun K hK => ?_)
     simp only [Mix.pick]
     repeat (go_big_quiet_step (fail))
     refine wpQuiet_nil (hK _ ?_)
     clear hK K
     refine MixH.tk 4 5 rfl (.int .i64 x.pr) (yields_int (.tmp 33) rfl ⟨B, 0, none⟩ (.int .i64 x.pr) rfl rfl (fun A hA => hA.2.1.c0)) hS (fun a' ha => ?_)
     simp only [zP1, zP2, zP3, zP4] at ha
     subst ha
     refine MixH.one [false, false, false, false, false, false, false, true] 3 7 _ rfl rfl (by kernel_rfl) (by kernel_rfl) (fun K hK => ?_)
     simp only [Mix.pick]
     go_wp2_with fail
     refine Calls.mono QS.out ?_
     rintro e1 wS ⟨rfl, bS⟩
     have HS7 : Hid (TA wS t M N c E ∧ TupAt wS B x ∧ TupAt wS O xz ∧ Below w.heap.size w wS ∧ FloAt wS e.P e.n) := ⟨HA7.out.1.below bS, HA7.out.2.1.below bS, HA7.out.2.2.1.below bS, bthen HA7.out.2.2.2.1 bS, HA7.out.2.2.2.2.below bS⟩
     have hS8 : TA wS t M N c E ∧ TupAt wS B x ∧ wS.cell? ⟨e.P, 38, none⟩ = some (.int .i64 (s : Nat)) ∧ oTb wS := ⟨hS.1.below bS, hS.2.1.below bS, (bS.cell (p := ⟨e.P, 38, none⟩) (World.block_lt_of_cell? _ _ hS.2.2.1)).trans hS.2.2.1, hS.2.2.2.old bS⟩
     clear hS bS QS
     have hS := hS8
     clear hS8
     go_wp2_with fail
     refine ⟨rfl, hK _ _ hS ?_⟩
     clear hK K
     refine MixH.tks [false, false, false, false, false, false, false, false, false, true] 2 hS (fun K hK => ?_)
     simp only [Mix.pick]
     repeat (go_big_quiet_step (fail))
     refine wpQuiet_nil (hK _ ?_)
     clear hK K
     refine MixH.tk 1 10 rfl (.int .i64 v) (yields_int (.tmp 38) rfl ⟨0, s * 7 + sg, none⟩ (.int .i64 v) rfl rfl (fun A hA => by rw [HVV.out]; exact oTb.at hA.2.2.2 s sg HST.out HSG.out.2)) hS (fun a' ha => ?_)
     simp only [zP1, zP2, zP3, zP4] at ha
     subst ha
     refine MixH.tks [false, false, false, false, false, false, false, false, false, false, false, true] 0 hS (fun K hK => ?_)
     simp only [Mix.pick]
     repeat (go_big_quiet_step (fail))
     refine wpQuiet_nil (hK _ ?_)
     clear hK K
     refine MixH.done (by kernel_rfl) ?_
     clear hS
     by_cases hv0 : v = 0
     · have HV0 : Hid (oT e.n.st (sgN x.pr fl) = 0) := by show _ = _; rw [HVE.out, hv0]
       subst hv0
       go_wp2_with (first | (refine wpList_build_tu0 rfl rfl ?_) | (refine wpList_store_tup (.tmp 6) (.tmp 42) rfl rfl O xz xz rfl rfl HS7.out.2.2.1 rfl ?_))
       intro w9 h9 k9
       go_wp2_with fail
       refine bodyPost_ret (results_tup_tmp rfl _ _ O _ rfl h9) rfl ?_
       have hS9 := HS7.out
       have k10 : Ch (TB t M N E) w w9 := (Ch.ofBelow hS9.2.2.2.1).trans (k9.mono (T := fun q => q = O) (fun _ _ h => h)) (fun q hq h => by have h' : q = O := h; have := HOB.out; omega)
       exact ⟨173, xz, E, rfl, .inr (.inl ⟨HCK.out, e, HFS.out.1, .inl ⟨HV0.out, rfl, rfl, rfl⟩⟩), hS9.1.ch k9 (fun q hq hq2 => by have h1 := hS9.1; have h2 := HH.out.1.tlt q hq; have h3 : q = O := hq2; have := HOB.out; omega), k10⟩
     · have qv : (v == 0) = false := by simpa using hv0
       have HV0 : Hid (oT e.n.st (sgN x.pr fl) ≠ 0) := by show _ ≠ _; rw [HVE.out]; exact hv0
       clear hv0
       have QT : Hid _ := turn_any t M N c E wS HS7.out.1 e HFS.out.2 v
       have c38 := HS7.out.2.2.2.2.c38
       rw [HSTE.out] at c38
       go_wp2_with fail
       refine Calls.mono QT.out ?_
       rintro e2 w5 ⟨rfl, hTA5, k5, f5, hF5, hx5, hp5⟩
       have H5 : Hid (TA w5 t M N c (turnE c E e v) ∧ Ch (TB t M N E) wS w5 ∧ FloAt w5 e.P f5 ∧ ouT c f5 = ouT c e.n ∧ TupAt w5 O xz) := ⟨hTA5, k5, hF5, ouT_same c hx5 hp5, HS7.out.2.2.1.ch k5 (fun q => by have h1 := HH.out.1.tlt O q; have := HOB.out; omega)⟩
       clear hTA5 k5 hF5 hx5 hp5 QT c38
       have QO : Hid _ := outward_any t M N c e.P f5 w5 H5.out.1.cb H5.out.2.2.1
       rw [H5.out.2.2.2.1] at QO
       go_wp2_with fail
       refine Calls.mono QO.out ?_
       rintro e3 w6 ⟨rfl, b6⟩
       have H6 : Hid (TA w6 t M N c (turnE c E e v) ∧ Ch (TB t M N E) w w6 ∧ TupAt w6 O xz) := ⟨H5.out.1.below b6, ((Ch.ofBelow HS7.out.2.2.2.1).trans H5.out.2.1 (fun _ _ h => h)).trans (Ch.ofBelow (S := fun _ => False) b6) (fun _ _ h => h.elim), H5.out.2.2.2.2.below b6⟩
       clear b6 QO
       go_wp2_with (first | (refine wpList_store_tup (.tmp 6) (.tmp 61) rfl rfl O xz (ouT c e.n) rfl rfl H6.out.2.2 rfl ?_))
       intro w9 h9 k9
       go_wp2_with fail
       refine bodyPost_ret (results_tup_tmp rfl _ _ O _ rfl h9) rfl ?_
       have k10 : Ch (TB t M N E) w w9 := H6.out.2.1.trans (k9.mono (T := fun q => q = O) (fun _ _ h => h)) (fun q hq h => by have h' : q = O := h; have := HOB.out; omega)
       have hTB : ∀ q, TB t M N (turnE c E e v) q → q < w.heap.size := fun q hq => by
        refine HH.out.1.tlt q ?_
        unfold turnE at hq
        split at hq
        · exact TB.gone q hq
        · exact TB.turned (e' := e.turn c v) (fF_mem HH.out.1.dj HFS.out.2 (eqP_refl _)) rfl q hq
       exact ⟨0, ouT c e.n, turnE c E e v, rfl, .inr (.inl ⟨HCK.out, e, HFS.out.1, .inr ⟨HV0.out, rfl, rfl, by rw [HVE.out]⟩⟩), H6.out.1.ch k9 (fun q hq hq2 => by have h2 := hTB q hq; have h3 : q = O := hq2; have := HOB.out; omega), k10⟩
    | none =>
     rw [hf] at HPV
     have hv := HPV.out
     simp only [ptF] at hv
     subst hv
     have HFN : Hid (fF E x = none) := hf
     clear hf
     obtain ⟨f, hff⟩ : ∃ f : FN, f = ⟨x, 0, 0, 0⟩ := ⟨_, rfl⟩
     have HF : Hid (f = ⟨x, 0, 0, 0⟩) := hff
     clear hff
     obtain ⟨Z, hZ⟩ : ∃ Z, Z = wc.alloc (.cells (flC f) 72) := ⟨_, rfl⟩
     have bZ : Below wc.heap.size wc Z := by rw [hZ]; exact (Below.refl _ _).alloc (Nat.le_refl _) _
     obtain ⟨P, hP⟩ : ∃ P, P = wc.heap.size := ⟨_, rfl⟩
     have HZE : Hid (wc.alloc (.cells (flC f) 72) = Z) := hZ.symm
     have HPE : Hid (wc.heap.size = P) := hP.symm
     have HP7 : Hid (TA Z t M N c E ∧ TupAt Z B x ∧ TupAt Z O xz ∧ Below w.heap.size w Z ∧ FloAt Z P f) := ⟨H3.out.1.below bZ, H3.out.2.1.below bZ, H3.out.2.2.1.below bZ, bthen H3.out.2.2.2 bZ, by rw [hZ, hP]; exact flo_new wc f⟩
     have HPB : Hid (w.heap.size ≤ P ∧ P ≠ O) := by have h1 := H3.out.2.2.2.size; have h2 := H3.out.2.2.1.lt; have h3 := HPE.out; exact ⟨by omega, by omega⟩
     clear hZ bZ hP
     obtain ⟨s, hs⟩ : ∃ s : Nat, s = 0 := ⟨_, rfl⟩
     have HS0 : Hid (s = 0) := hs
     have HSTE : Hid (f.st = (s : Int)) := by show _ = _; rw [HF.out, hs]; rfl
     have HST : Hid (s < 8) := by show s < 8; omega
     have s0 : (0 : Int) ≤ (s : Int) := by omega
     have s1 : (s : Int) < 8 := by have := HST.out; omega
     have s2 : ((s : Int)).toNat = s := by omega
     have s3 : ((s : Int) == 0) = true := by simp; omega
     clear hs
     obtain ⟨v, hvv⟩ : ∃ v, v = oT s sg := ⟨_, rfl⟩
     have HVV : Hid (v = oT s sg) := hvv
     have HVE : Hid (oT 0 (sgN x.pr fl) = v) := by show _ = _; rw [HSG.out.1, hvv, HS0.out]; rfl
     clear hvv
     go_upto_region 7 with (first | (refine wpList_load_tup (.tmp 4) rfl B x rfl H3.out.2.1 rfl ?_) | (refine wpList_build_fl (.tmp 26) (.const (.int .i64 0)) rfl x f HF.out rfl rfl rfl ?_))
     rw [HZE.out, HPE.out]
     refine MixH.start (fun A => TA A t M N c E ∧ TupAt A B x ∧ A.cell? ⟨P, 38, none⟩ = some (.int .i64 (s : Nat)) ∧ oTb A) (by kernel_rfl) ?_
     obtain ⟨wA7, hwA⟩ : ∃ wA, wA = Z.drew := ⟨_, rfl⟩
     have bdr := zDr hwA
     have HA7 : Hid (TA wA7 t M N c E ∧ TupAt wA7 B x ∧ TupAt wA7 O xz ∧ Below w.heap.size w wA7 ∧ FloAt wA7 P f) := ⟨HP7.out.1.below bdr, HP7.out.2.1.below bdr, HP7.out.2.2.1.below bdr, bthen HP7.out.2.2.2.1 bdr, HP7.out.2.2.2.2.below bdr⟩
     have hS : TA wA7 t M N c E ∧ TupAt wA7 B x ∧ wA7.cell? ⟨P, 38, none⟩ = some (.int .i64 (s : Nat)) ∧ oTb wA7 := ⟨HA7.out.1, HA7.out.2.1, by rw [HA7.out.2.2.2.2.c38, HSTE.out], HH.out.2.2.2.2.2.old HA7.out.2.2.2.1⟩
     have QS : Hid _ := segment_any x.pr fl wA7
     rw [HSG.out.1] at QS
     rw [← hwA]
     clear hwA bdr
     refine MixH.tks [true, true, true, false, true, false, true] 7 hS (fun K hK => ?_)
     simp only [Mix.pick]
     repeat (go_big_quiet_step (fail))
     refine wpQuiet_nil (hK _ ?_)
     clear hK K
     refine MixH.tk 6 3 rfl (.int .i64 (s : Nat)) (yields_int (.tmp 31) rfl ⟨P, 38, none⟩ (.int .i64 (s : Nat)) rfl rfl (fun A hA => hA.2.2.1)) hS (fun a' ha => ?_)
     simp only [zP1, zP2, zP3, zP4] at ha
     subst ha
     refine MixH.tks [false, false, false, false, false, false, false, false, true] 5 hS (fun K hK => ?_)
     simp only [Mix.pick]
     repeat (go_big_quiet_step (fail))
     refine wpQuiet_nil (hK _ ?_)
     clear hK K
     refine MixH.tk 4 5 rfl (.int .i64 x.pr) (yields_int (.tmp 33) rfl ⟨B, 0, none⟩ (.int .i64 x.pr) rfl rfl (fun A hA => hA.2.1.c0)) hS (fun a' ha => ?_)
     simp only [zP1, zP2, zP3, zP4] at ha
     subst ha
     refine MixH.one [false, false, false, false, false, false, false, true] 3 7 _ rfl rfl (by kernel_rfl) (by kernel_rfl) (fun K hK => ?_)
     simp only [Mix.pick]
     go_wp2_with fail
     refine Calls.mono QS.out ?_
     rintro e1 wS ⟨rfl, bS⟩
     have HS7 : Hid (TA wS t M N c E ∧ TupAt wS B x ∧ TupAt wS O xz ∧ Below w.heap.size w wS ∧ FloAt wS P f) := ⟨HA7.out.1.below bS, HA7.out.2.1.below bS, HA7.out.2.2.1.below bS, bthen HA7.out.2.2.2.1 bS, HA7.out.2.2.2.2.below bS⟩
     have hS8 : TA wS t M N c E ∧ TupAt wS B x ∧ wS.cell? ⟨P, 38, none⟩ = some (.int .i64 (s : Nat)) ∧ oTb wS := ⟨hS.1.below bS, hS.2.1.below bS, (bS.cell (p := ⟨P, 38, none⟩) (World.block_lt_of_cell? _ _ hS.2.2.1)).trans hS.2.2.1, hS.2.2.2.old bS⟩
     clear hS bS QS
     have hS := hS8
     clear hS8
     go_wp2_with fail
     refine ⟨rfl, hK _ _ hS ?_⟩
     clear hK K
     refine MixH.tks [false, false, false, false, false, false, false, false, false, true] 2 hS (fun K hK => ?_)
     simp only [Mix.pick]
     repeat (go_big_quiet_step (fail))
     refine wpQuiet_nil (hK _ ?_)
     clear hK K
     refine MixH.tk 1 10 rfl (.int .i64 v) (yields_int (.tmp 38) rfl ⟨0, s * 7 + sg, none⟩ (.int .i64 v) rfl rfl (fun A hA => by rw [HVV.out]; exact oTb.at hA.2.2.2 s sg HST.out HSG.out.2)) hS (fun a' ha => ?_)
     simp only [zP1, zP2, zP3, zP4] at ha
     subst ha
     refine MixH.tks [false, false, false, false, false, false, false, false, false, false, false, true] 0 hS (fun K hK => ?_)
     simp only [Mix.pick]
     repeat (go_big_quiet_step (fail))
     refine wpQuiet_nil (hK _ ?_)
     clear hK K
     refine MixH.done (by kernel_rfl) ?_
     clear hS
     by_cases hv0 : v = 0
     · have HV0 : Hid (oT 0 (sgN x.pr fl) = 0) := by show _ = _; rw [HVE.out, hv0]
       subst hv0
       go_wp2_with (first | (refine wpList_build_tu0 rfl rfl ?_) | (refine wpList_store_tup (.tmp 6) (.tmp 42) rfl rfl O xz xz rfl rfl HS7.out.2.2.1 rfl ?_))
       intro w9 h9 k9
       go_wp2_with fail
       refine bodyPost_ret (results_tup_tmp rfl _ _ O _ rfl h9) rfl ?_
       have hS9 := HS7.out
       have k10 : Ch (TB t M N E) w w9 := (Ch.ofBelow hS9.2.2.2.1).trans (k9.mono (T := fun q => q = O) (fun _ _ h => h)) (fun q hq h => by have h' : q = O := h; have := HOB.out; omega)
       exact ⟨173, xz, E, rfl, .inr (.inr ⟨HCK.out, HFN.out, .inl ⟨HV0.out, rfl, rfl, rfl⟩⟩), hS9.1.ch k9 (fun q hq hq2 => by have h1 := hS9.1; have h2 := HH.out.1.tlt q hq; have h3 : q = O := hq2; have := HOB.out; omega), k10⟩
     · have qv : (v == 0) = false := by simpa using hv0
       have HV0 : Hid (oT 0 (sgN x.pr fl) ≠ 0) := by show _ ≠ _; rw [HVE.out]; exact hv0
       clear hv0
       have HXF : Hid (f.x = x) := by show _ = _; rw [HF.out]
       have HPN : Hid (∀ a ∈ E, a.P ≠ P) := fun a ha q => by have h1 := HH.out.1.tlt a.P (.inr (.inr (.inr ⟨a, ha, rfl⟩))); have := HPB.out; omega
       have QB : Hid _ := begin_any t M N c E wS HS7.out.1 HH.out.2.1 HH.out.2.2.1 P f HS7.out.2.2.2.2 HPN.out (by rw [HXF.out]; exact HH.out.2.2.2.2.1) (by rw [HXF.out]; exact ckE_tp HCK.out) (by rw [HXF.out]; exact HFN.out)
       rw [HXF.out] at QB
       obtain ⟨bg, hbg⟩ : ∃ bg, bgE c E x = bg := ⟨_, rfl⟩
       rw [hbg] at QB
       have HBG : Hid (bgE c E x = bg) := hbg
       clear hbg
       have c38 := HS7.out.2.2.2.2.c38
       rw [HSTE.out] at c38
       go_wp2_with fail
       refine Calls.mono QB.out ?_
       rintro e2 w5 ⟨rfl, hor⟩
       clear QB c38
       rcases hor with ⟨hbn, b5⟩ | ⟨hb0, po, hfo, hTA5, k5⟩
       · have H5 : Hid (TA w5 t M N c E ∧ TupAt w5 B x ∧ TupAt w5 O xz ∧ Below w.heap.size w w5) := ⟨HS7.out.1.below b5, HS7.out.2.1.below b5, HS7.out.2.2.1.below b5, bthen HS7.out.2.2.2.1 b5⟩
         have HB0 : Hid (bgE c E x ≠ 0) := by show _ ≠ _; rw [HBG.out]; exact hbn
         have qb : (bg != 0) = true := by simpa using hbn
         clear b5 hbn
         go_wp2_with (first | (refine wpList_build_tu0 rfl rfl ?_) | (refine wpList_store_tup (.tmp 6) (.tmp 53) rfl rfl O xz xz rfl rfl H5.out.2.2.1 rfl ?_))
         intro w9 h9 k9
         go_wp2_with fail
         refine bodyPost_ret (results_tup_tmp rfl _ _ O _ rfl h9) rfl ?_
         have hS9 := H5.out
         have k10 : Ch (TB t M N E) w w9 := (Ch.ofBelow hS9.2.2.2).trans (k9.mono (T := fun q => q = O) (fun _ _ h => h)) (fun q hq h => by have h' : q = O := h; have := HOB.out; omega)
         exact ⟨bg, xz, E, rfl, .inr (.inr ⟨HCK.out, HFN.out, .inr (.inl ⟨HV0.out, HB0.out, HBG.out.symm, rfl, rfl⟩)⟩), hS9.1.ch k9 (fun q hq hq2 => by have h1 := hS9.1; have h2 := HH.out.1.tlt q hq; have h3 : q = O := hq2; have := HOB.out; omega), k10⟩
       · subst hb0
         obtain ⟨e, hee⟩ : ∃ e : FV, e = ⟨⟨x, po, 0, 0⟩, P⟩ := ⟨_, rfl⟩
         have hE5 : (⟨{ f with po := po }, P⟩ : FV) = e := by rw [hee, HF.out]
         have hTA5' : TA w5 t M N c (E ++ [e]) := by
          have h1 := hTA5
          rw [← HXF.out] at h1
          rw [← hE5]
          exact h1
         have HE : Hid (e.P = P ∧ e.n = ⟨x, po, 0, 0⟩ ∧ e ∈ E ++ [e] ∧ fpO c E x = some po) := ⟨by rw [hee], by rw [hee], by simp, hfo⟩
         have H5 : Hid (TA w5 t M N c (E ++ [e]) ∧ Ch (TB t M N E) w w5 ∧ TupAt w5 O xz) := by
          have k6 : Ch (fun q => TB t M N E q ∨ w.heap.size ≤ q) w w5 := (Ch.ofBelow HS7.out.2.2.2.1).trans k5 (fun q _ hq => by
           rcases hq with h | h | h
           · exact .inl (.inr (.inl h))
           · exact .inl (.inr (.inr (.inl h)))
           · exact .inr (by have := HPB.out; omega))
          refine ⟨hTA5', k6.mono (fun q hq h => h.elim id (fun h => absurd h (by omega))), HS7.out.2.2.1.ch k5 (fun q => ?_)⟩
          have h1 := HPB.out
          have h2 := HOB.out
          rcases q with h | h | h
          · have := HH.out.1.tlt M (.inr (.inl rfl)); omega
          · have := HH.out.1.tlt N (.inr (.inr (.inl rfl))); omega
          · exact h1.2 h.symm
         clear hTA5 hTA5' hfo k5 hee hE5
         have QT : Hid _ := turn_any t M N c (E ++ [e]) w5 H5.out.1 e HE.out.2.2.1 v
         rw [HE.out.1] at QT
         go_wp2_with fail
         refine Calls.mono QT.out ?_
         rintro e3 w6 ⟨rfl, hTA6, k6, f6, hF6, hx6, hp6⟩
         obtain ⟨en, hen⟩ : ∃ en : FV, en = ⟨⟨x, po, v, tkN c x.pr v⟩, P⟩ := ⟨_, rfl⟩
         have hTE : turnE c (E ++ [e]) e v = E ++ [en] := by
          have h1 : (v == -1) = false := by rw [← HVE.out]; exact oT0 _ (sgN_lt x.pr fl).1 (sgN_lt x.pr fl).2
          have h2 : e.n.x = x := by rw [HE.out.2.1]
          unfold turnE
          rw [h1, h2]
          show updF (E ++ [e]) x (e.turn c v) = _
          rw [upd_new HFN.out h2]
          unfold FV.turn
          rw [HE.out.2.1, HE.out.1, hen]
         have HEN : Hid (en = ⟨⟨x, po, v, tkN c x.pr v⟩, P⟩) := hen
         have H6 : Hid (TA w6 t M N c (E ++ [en]) ∧ Ch (TB t M N E) w w6 ∧ TupAt w6 O xz ∧ FloAt w6 P f6 ∧ ouT c f6 = ouT c ⟨x, po, 0, 0⟩) := by
          refine ⟨by rw [← hTE]; exact hTA6, H5.out.2.1.trans k6 (fun q hq h => ?_), H5.out.2.2.ch k6 (fun q => ?_), hF6, ouT_same c (by rw [hx6, HE.out.2.1]) (by rw [hp6, HE.out.2.1])⟩
          · rcases h with h | h | h | ⟨a, ha, h⟩
            · exact .inl h
            · exact .inr (.inl h)
            · exact .inr (.inr (.inl h))
            · rcases List.mem_append.1 ha with ha | ha
              · exact .inr (.inr (.inr ⟨a, ha, h⟩))
              · simp only [List.mem_singleton] at ha
                rw [h, ha, HE.out.1] at hq
                have := HPB.out
                omega
          · have h2 := HOB.out
            rcases q with h | h | h | ⟨a, ha, h⟩
            · have := HH.out.1.tlt t (.inl rfl); omega
            · have := HH.out.1.tlt M (.inr (.inl rfl)); omega
            · have := HH.out.1.tlt N (.inr (.inr (.inl rfl))); omega
            · rcases List.mem_append.1 ha with ha | ha
              · have := HH.out.1.tlt a.P (.inr (.inr (.inr ⟨a, ha, rfl⟩))); omega
              · simp only [List.mem_singleton] at ha
                rw [ha, HE.out.1] at h
                exact HPB.out.2 h.symm
         clear hTA6 k6 hF6 hx6 hp6 QT hTE hen
         have QO : Hid _ := outward_any t M N c P f6 w6 H6.out.1.cb H6.out.2.2.2.1
         rw [H6.out.2.2.2.2] at QO
         go_wp2_with fail
         refine Calls.mono QO.out ?_
         rintro e4 w7 ⟨rfl, b7⟩
         have H7 : Hid (TA w7 t M N c (E ++ [en]) ∧ Ch (TB t M N E) w w7 ∧ TupAt w7 O xz) := ⟨H6.out.1.below b7, H6.out.2.1.trans (Ch.ofBelow (S := fun _ => False) b7) (fun _ _ h => h.elim), H6.out.2.2.1.below b7⟩
         clear b7 QO
         go_wp2_with (first | (refine wpList_store_tup (.tmp 6) (.tmp 61) rfl rfl O xz (ouT c ⟨x, po, 0, 0⟩) rfl rfl H7.out.2.2 rfl ?_))
         intro w9 h9 k9
         go_wp2_with fail
         refine bodyPost_ret (results_tup_tmp rfl _ _ O _ rfl h9) rfl ?_
         have k10 : Ch (TB t M N E) w w9 := H7.out.2.1.trans (k9.mono (T := fun q => q = O) (fun _ _ h => h)) (fun q hq h => by have h' : q = O := h; have := HOB.out; omega)
         refine ⟨0, _, E ++ [en], rfl, .inr (.inr ⟨HCK.out, HFN.out, .inr (.inr ⟨HV0.out, HBG.out, rfl, po, P, HE.out.2.2.2, HPB.out.1, rfl, by rw [HEN.out, HVE.out]⟩)⟩), H7.out.1.ch k9 (fun q hq hq2 => ?_), k10⟩
         have h3 : q = O := hq2
         have h2 := HOB.out
         rcases hq with h | h | h | ⟨a, ha, h⟩
         · have := HH.out.1.tlt t (.inl rfl); omega
         · have := HH.out.1.tlt M (.inr (.inl rfl)); omega
         · have := HH.out.1.tlt N (.inr (.inr (.inl rfl))); omega
         · rcases List.mem_append.1 ha with ha | ha
           · have := HH.out.1.tlt a.P (.inr (.inr (.inr ⟨a, ha, rfl⟩))); omega
           · simp only [List.mem_singleton] at ha
             rw [ha, HEN.out] at h
             exact HPB.out.2 (by rw [← h3]; exact h.symm)
 · have q0 : (ck != 0) = true := by simpa using h0
   have HC0 : Hid (ckE x ≠ 0) := by show _ ≠ _; rw [HCK.out]; exact h0
   clear h0
   go_wp2_with (first | (refine wpList_build_tu0 rfl rfl ?_) | (refine wpList_store_tup (.tmp 6) (.tmp 16) rfl rfl O xz xz rfl rfl H2.out.2.2.1 rfl ?_))
   intro w9 h9 k9
   go_wp2_with fail
   refine bodyPost_ret (results_tup_tmp rfl _ _ O _ rfl h9) rfl ?_
   have hS9 := H2.out
   have k10 : Ch (TB t M N E) w w9 := (Ch.ofBelow hS9.2.2.2).trans (k9.mono (T := fun q => q = O) (fun _ _ h => h)) (fun q hq h => by have h' : q = O := h; have := HOB.out; omega)
   exact ⟨ck, xz, E, rfl, .inl ⟨HC0.out, HCK.out.symm, rfl, rfl⟩, hS9.1.ch k9 (fun q hq hq2 => by have h1 := hS9.1; have h2 := HH.out.1.tlt q hq; have h3 : q = O := hq2; have := HOB.out; omega), k10⟩
end Go.Proofs.YtclpeepnngegaaaGreatDoor
