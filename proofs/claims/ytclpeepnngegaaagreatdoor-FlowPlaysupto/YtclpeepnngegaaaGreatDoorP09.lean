/-
  FlFn6: lemmas of the proof of FlowPlays, and walks through the functions that it calls.
-/
import Derived.Test.YtclpeepnngegaaaGreatDoorP00
import Derived.Test.YtclpeepnngegaaaGreatDoorP08
namespace Go.Proofs.YtclpeepnngegaaaGreatDoor
open Go.RowKit Go.Maps
theorem wpList_put_ma {ops : Array Oper} {rest : List Oper} {o : Oper} {a : Act} {w : World} {Q : Exit → Act → World → Prop} (hg : o.guard = none) (hd : o.dst = none) (m x y : Operand) (hop : o.op = .mapUpdate 67 m x y) (M : Nat) (D : DataW Value) (R : List KP) (h : MA w M D R) (p : TU) (P : Nat) (kl : Lit) (hk : keyOf Tryz.prog 38 (.agg (tuC p)) = some kl) (hn : fnd R p = none) (hw : p.Wf) (hl : R.length ≤ 100000) (hm : a.eval m = .map (some M)) (hx : a.eval x = .agg (tuC p)) (hy : a.eval y = .pointer (some ⟨P, 0, none⟩))
 (hK : ∀ w', MA w' M (D.put kl (.held (.pointer (some ⟨P, 0, none⟩)))) (R ++ [⟨p, P⟩]) → Ch (fun q => q = M) w w' → wpList Tryz.prog ops Q rest a w') : wpList Tryz.prog ops Q (o :: rest) a w := by
 refine wpList_mapUpdate_own _ hg m x y 67 hop 38 77 lawR Tryz.underlying67 anyE M R.length D hm h.mo (by unfold maxLen; omega) (.agg (tuC p)) (.pointer (some ⟨P, 0, none⟩)) kl hx hy hk (.held (.pointer (some ⟨P, 0, none⟩))) [] rfl ?_
 intro w' hown hgr
 rw [hd]
 exact hK w' (h.added ⟨p, P⟩ kl hk hn hw hown) ((Ch.ofGrown hgr).mono (fun q _ hq => by have e : some M = some q := hq; simp at e; exact e.symm))
theorem wpList_put_mb {ops : Array Oper} {rest : List Oper} {o : Oper} {a : Act} {w : World} {Q : Exit → Act → World → Prop} (hg : o.guard = none) (hd : o.dst = none) (m x y : Operand) (hop : o.op = .mapUpdate 68 m x y) (M : Nat) (D : DataW Value) (R : List KQ) (h : MB w M D R) (p : PL) (P : Nat) (kl : Lit) (hk : keyOf Tryz.prog 102 (.agg (plC p)) = some kl) (hn : fnq R p = none) (hw : p.Wf) (hl : R.length ≤ 100000) (hm : a.eval m = .map (some M)) (hx : a.eval x = .agg (plC p)) (hy : a.eval y = .pointer (some ⟨P, 0, none⟩))
 (hK : ∀ w', MB w' M (D.put kl (.held (.pointer (some ⟨P, 0, none⟩)))) (R ++ [⟨p, P⟩]) → Ch (fun q => q = M) w w' → wpList Tryz.prog ops Q rest a w') : wpList Tryz.prog ops Q (o :: rest) a w := by
 refine wpList_mapUpdate_own _ hg m x y 68 hop 102 77 lawQ Tryz.underlying68 anyE M R.length D hm h.mo (by unfold maxLen; omega) (.agg (plC p)) (.pointer (some ⟨P, 0, none⟩)) kl hx hy hk (.held (.pointer (some ⟨P, 0, none⟩))) [] rfl ?_
 intro w' hown hgr
 rw [hd]
 exact hK w' (h.added ⟨p, P⟩ kl hk hn hw hown) ((Ch.ofGrown hgr).mono (fun q _ hq => by have e : some M = some q := hq; simp at e; exact e.symm))
theorem TA.lenM {w : World} {t M N : Nat} {c : CF} {E : List FV} (h : TA w t M N c E) (ty : TypeId) : (Builtin.len_ #[67] ty #[.map (some M)]).run Tryz.prog w = .ok (.int .i64 (E.length : Nat)) w := by
 obtain ⟨D, hD⟩ := h.ma
 have := hD.mo.len Tryz.underlying67 ty
 rw [hD.sz, List.length_map] at this
 exact this
theorem yields_lenM {ops : Array Oper} {o : Oper} {a : Act} {S : World → Prop} (m : Operand) (ho : o.op = .call { callee := .builtin .len, args := #[m], argTypes := #[67] }) (t M N : Nat) (c : CF) (E : List FV) (hm : a.eval m = .map (some M)) (hw : Region.wanted o (yielded ops a.tmps) = true)
 (hS : ∀ w, S w → TA w t M N c E) : YieldsIf Tryz.prog ops S o (.int .i64 (E.length : Nat)) a := by
 refine .inl ⟨hw, fun w hb => ?_⟩
 have hrun := (hS w hb).lenM o.type
 obtain ⟨dst, op, type, pos, after, guard⟩ := o
 simp only at ho
 subst ho
 simp [execOp, resolve, invoke, builtin, hm, hrun, Result.andThen]
theorem wpList_lenM {ops : Array Oper} {rest : List Oper} {o : Oper} {a : Act} {w : World} {Q : Exit → Act → World → Prop} (m : Operand) (hg : o.guard = none) (ho : o.op = .call { callee := .builtin .len, args := #[m], argTypes := #[67] }) (t M N : Nat) (c : CF) (E : List FV) (hm : a.eval m = .map (some M)) (hT : TA w t M N c E)
 (h : wpList Tryz.prog ops Q rest (a.put o.dst (.int .i64 (E.length : Nat))) w) : wpList Tryz.prog ops Q (o :: rest) a w := by
 refine wpList_plain hg fun K' hK' => ?_
 unfold Oper.wp
 simp [execOp, ho, resolve, invoke, builtin, hm, hT.lenM o.type, Result.andThen]
 exact hK' _ _ h
set_option maxHeartbeats 1600000 in
set_option maxRecDepth 100000 in
theorem len_any (t M N : Nat) (c : CF) (E : List FV) (w : World) (h : TA w t M N c E) : Calls Tryz.prog 8 #[.pointer (some ⟨t, 0, none⟩)] w fun r w' => r = .returned (.int .i64 (E.length : Nat)) ∧ w = w' := by
 have HC : Hid (TA w t M N c E) := h
 have cp := TblAt.mp h.cb
 clear h
 go_enter Tryz.func8, Tryz.ntmps8
 go_wp2_with (first | (refine wpList_lenM (.tmp 6) rfl rfl t M N c E rfl HC.out ?_))
 go_ret
 exact ⟨rfl, rfl⟩
theorem tup_ne {w : World} {O g : Nat} {f : TU} {es : Array MapEntry} {ck : Nat} (h : TupAt w O f) (hm : w.heap[g]? = some (.map es ck)) : O ≠ g := fun e => by
 unfold TupAt at h
 rw [e, hm] at h; cases h
theorem TA.added {A A' : World} {t M N : Nat} {c : CF} {E : List FV} {e : FV} {D D' : DataW Value} (h : TA A t M N c E) (hD : MA A' M D ((E ++ [e]).map FV.kp)) (hD' : MB A' N D' (((E ++ [e]).filter isF).map FV.kq)) (kk : Ch (fun q => q = M ∨ q = N) A A') (hE : FloAt A e.P e.n) (fP : ∀ a ∈ E, a.P ≠ e.P) : TA A' t M N c (E ++ [e]) := by
 obtain ⟨n1, n2, n3⟩ := h.nt
 obtain ⟨D0, h0⟩ := h.ma
 obtain ⟨D1, h1⟩ := h.mb
 obtain ⟨es, ck, hM⟩ := h0.blk
 obtain ⟨es', ck', hN⟩ := h1.blk
 refine ⟨TblAt.ch h.cb kk (fun q => q.elim n1 n2), ⟨D, hD⟩, ⟨D', hD'⟩, fun a ha => ?_, ?_, h.mn⟩
 · rcases List.mem_append.1 ha with ha | ha
   · exact (h.en a ha).ch kk (fun q => q.elim (n3 a ha).2.1 (n3 a ha).2.2)
   · simp only [List.mem_singleton] at ha
     subst ha
     exact hE.ch kk (fun q => q.elim (flo_ne hE hM) (flo_ne hE hN))
 · rw [List.pairwise_append]
   refine ⟨h.pd, by simp, fun a ha b hb => ?_⟩
   simp only [List.mem_singleton] at hb; subst hb; exact fP a ha
def bgE (c : CF) (E : List FV) (x : TU) : Int := if ecB x && (!(x.dp == 0) || x.sp == 0) then 173 else if (E.length : Int) == c.mx then 171 else if (fpO c E x).isNone then 172 else 0
theorem vld_46 {V : Int} {x : Nat → Nat} (h : vld V x = true) (h4 : (V == 4) = false) : (V == 6) = true := by
 unfold vld at h
 rw [h4] at h
 simpa using h
theorem tpB_46 {x : TU} (h : tpB x = true) (h4 : (x.sV == 4) = false) : (x.sV == 6) = true := by
 unfold tpB at h
 simp only [Bool.and_eq_true] at h
 exact vld_46 h.1.1.1.1 h4
theorem i4_n6 {V : Int} (h : (V == 4) = true) : (V == 6) = false := by
 have : V = 4 := by simpa using h
 subst this; rfl
set_option maxHeartbeats 1600000 in
set_option maxRecDepth 100000 in
theorem begin_any (t M N : Nat) (c : CF) (E : List FV) (w : World) (h : TA w t M N c E) (hc : CfOk c) (hl : E.length ≤ 4096) (P : Nat) (f : FN) (hF : FloAt w P f) (hP : ∀ a ∈ E, a.P ≠ P) (hx : f.x.Wf) (htp : tpB f.x = true) (hn : fF E f.x = none) : Calls Tryz.prog 28 #[.pointer (some ⟨t, 0, none⟩), .pointer (some ⟨P, 0, none⟩)] w fun r w' => r = .returned (.int .i64 (bgE c E f.x)) ∧ ((bgE c E f.x ≠ 0 ∧ Below w.heap.size w w') ∨ (bgE c E f.x = 0 ∧ ∃ po, fpO c E f.x = some po ∧ TA w' t M N c (E ++ [⟨{ f with po := po }, P⟩]) ∧ Ch (fun q => q = M ∨ q = N ∨ q = P) w w')) := by
 obtain ⟨x, hxx⟩ : ∃ x, f.x = x := ⟨_, rfl⟩
 have HFX : Hid (f.x = x) := hxx
 rw [hxx] at hx htp hn ⊢
 have HH : Hid (TA w t M N c E ∧ CfOk c ∧ E.length ≤ 4096 ∧ FloAt w P f ∧ (∀ a ∈ E, a.P ≠ P) ∧ x.Wf ∧ tpB x = true ∧ fF E x = none) := ⟨h, hc, hl, hF, hP, hx, htp, hn⟩
 have HFT : Hid (w.rangeAt P 0 (tuC x).toList) := by have := hF.tup; rw [hxx] at this; exact this
 clear h hc hl hF hP hx htp hn hxx
 obtain ⟨Y, O, -, HOY, HLY, HEY, hb⟩ := zBx w (tuC xz) 38
 have HNY : Hid (TupAt Y O xz) := hb
 clear hb
 obtain ⟨b1, hb1⟩ : ∃ b, ecB x = b := ⟨_, rfl⟩
 obtain ⟨b2, hb2⟩ : ∃ b, (x.dp == 0) = b := ⟨_, rfl⟩
 obtain ⟨b3, hb3⟩ : ∃ b, (x.sp == 0) = b := ⟨_, rfl⟩
 obtain ⟨b4, hb4⟩ : ∃ b, ((E.length : Int) == c.mx) = b := ⟨_, rfl⟩
 have HBG : Hid (bgE c E x = if b1 && (!b2 || b3) then 173 else if b4 then 171 else if (fpO c E x).isNone then 172 else 0) := by show _ = _; unfold bgE; rw [hb1, hb2, hb3, hb4]
 have q2 : (x.dp != 0) = !b2 := by rw [← hb2]; rfl
 have HB4 : Hid (((E.length : Int) == c.mx) = b4) := hb4
 have HB1 : Hid (ecB x = b1) := hb1
 clear hb1 hb2 hb4
 go_enter Tryz.func28, Tryz.ntmps28
 go_wp2_with (first | (refine wpList_mid_tup (.tmp 10) rfl P 0 x rfl HFT.out rfl ?_) | (refine wpList_alloc_tup rfl rfl ?_; rw [HEY.out, HOY.out]) | (refine wpList_store_tup (.tmp 5) (.tmp 11) rfl rfl O xz x rfl rfl HNY.out rfl ?_))
 intro w2 h2 k2
 have H2 : Hid (TA w2 t M N c E ∧ TupAt w2 O x ∧ Below w.heap.size w w2 ∧ FloAt w2 P f) := by
  have b2 : Below w.heap.size w w2 := HLY.out.trans (k2.below (fun q hq => by have hq' : q = O := hq; have := HOY.out; omega) HLY.out.size)
  exact ⟨HH.out.1.below b2, h2, b2, HH.out.2.2.2.1.below b2⟩
 have QI : Hid _ := isEcho_any x w2
 rw [HB1.out] at QI
 clear h2 k2 HFT
 go_wp2_with (first | (refine wpList_load_tup (.tmp 5) rfl O x rfl H2.out.2.1 rfl ?_))
 refine Calls.mono QI.out ?_
 rintro e1 w3 ⟨rfl, b3'⟩
 have H3 : Hid (TA w3 t M N c E ∧ TupAt w3 O x ∧ Below w.heap.size w w3 ∧ FloAt w3 P f) := ⟨H2.out.1.below b3', H2.out.2.1.below b3', bthen H2.out.2.2.1 b3', H2.out.2.2.2.below b3'⟩
 clear b3' QI H2
 have c35 := H3.out.2.1.c35
 have c36 := H3.out.2.1.c36
 cases b1 with
 | false =>
  have HG2 : Hid (bgE c E x = if b4 then 171 else if (fpO c E x).isNone then 172 else 0) := by show _ = _; rw [HBG.out]; rfl
  clear HBG
  have q4 := HB4.out
  go_upto_region 4 with fail
  clear c35 c36
  refine MixH.start (fun A => TA A t M N c E ∧ TupAt A O x) (by kernel_rfl) ?_
  obtain ⟨wA, hwA⟩ : ∃ wA, wA = w3.drew := ⟨_, rfl⟩
  have bdr := zDr hwA
  have hS : TA wA t M N c E ∧ TupAt wA O x := ⟨H3.out.1.below bdr, H3.out.2.1.below bdr⟩
  have HA : Hid (TA wA t M N c E ∧ TupAt wA O x ∧ Below w.heap.size w wA ∧ FloAt wA P f) := ⟨hS.1, hS.2, bthen H3.out.2.2.1 bdr, H3.out.2.2.2.below bdr⟩
  rw [← hwA]
  clear hwA bdr
  refine MixH.tks [true, true, true, false, false, true, true, true, true] 4 hS (fun K hK => ?_)
  simp only [Mix.pick]
  repeat (go_big_quiet_step (fail))
  refine wpQuiet_nil (hK _ ?_)
  clear hK K
  refine MixH.tk 3 3 rfl (.map (some M)) (yields_map (.tmp 26) rfl ⟨t, 25, none⟩ (.map (some M)) rfl rfl (fun A hA => TblAt.mp hA.1.cb)) hS (fun a' ha => ?_)
  simp only [zP1, zP2, zP3, zP4] at ha
  subst ha
  refine MixH.tk 2 4 rfl (.int .i64 (E.length : Nat)) (yields_lenM (.tmp 27) rfl t M N c E rfl rfl (fun A hA => hA.1)) hS (fun a' ha => ?_)
  simp only [zP1, zP2, zP3, zP4] at ha
  subst ha
  refine MixH.tk 1 9 rfl (.int .i64 c.mx) (yields_int (.tmp 32) rfl ⟨t, 0, none⟩ (.int .i64 c.mx) rfl rfl (fun A hA => TblAt.c0 hA.1.cb)) hS (fun a' ha => ?_)
  simp only [zP1, zP2, zP3, zP4] at ha
  subst ha
  refine MixH.tks [false, false, false, false, false, false, false, false, false, false, true] 0 hS (fun K hK => ?_)
  simp only [Mix.pick]
  repeat (go_big_quiet_step (fail))
  refine wpQuiet_nil (hK _ ?_)
  clear hK K
  refine MixH.done (by kernel_rfl) ?_
  clear hS
  cases b4 with
  | true =>
   go_wp2_with fail
   go_ret
   exact ⟨by rw [HG2.out]; rfl, .inl ⟨by rw [HG2.out]; simp, HA.out.2.2.1⟩⟩
  | false =>
   have QF : Hid _ := freePort_any t M N c E wA HA.out.1 HH.out.2.1 x HH.out.2.2.2.2.2.1
   obtain ⟨fo, hfo⟩ : ∃ fo, fpO c E x = fo := ⟨_, rfl⟩
   rw [hfo] at QF
   have HFO : Hid (fpO c E x = fo) := hfo
   clear hfo
   go_wp2_with (first | (refine wpList_load_tup (.tmp 5) rfl O x rfl HA.out.2.1 rfl ?_))
   refine Calls.mono QF.out ?_
   rintro e1 w4 ⟨rfl, b4'⟩
   have H4 : Hid (TA w4 t M N c E ∧ TupAt w4 O x ∧ Below w.heap.size w w4 ∧ FloAt w4 P f) := ⟨HA.out.1.below b4', HA.out.2.1.below b4', bthen HA.out.2.2.1 b4', HA.out.2.2.2.below b4'⟩
   clear b4' QF HA H3
   cases fo with
   | none =>
    have HG3 : Hid (bgE c E x = 172) := by show _ = _; rw [HG2.out, HFO.out]; rfl
    simp only [okV]
    go_wp2_with fail
    go_ret
    exact ⟨by rw [HG3.out]; rfl, .inl ⟨by rw [HG3.out]; decide, H4.out.2.2.1⟩⟩
   | some po =>
    have HG3 : Hid (bgE c E x = 0) := by show _ = _; rw [HG2.out, HFO.out]; rfl
    have c37 := H4.out.2.2.2.c37
    have f37 := H4.out.2.2.2.fz 37
    simp only [okV]
    go_upto_region 10 with fail
    obtain ⟨w5, hw5⟩ : ∃ w5, w5 = w4.setCell ⟨P, 37, none⟩ (.int .i64 po) := ⟨_, rfl⟩
    rw [← hw5]
    obtain ⟨e, hee⟩ : ∃ e : FV, e = ⟨{ f with po := po }, P⟩ := ⟨_, rfl⟩
    have HE : Hid (e.P = P ∧ e.n = { f with po := po } ∧ e.n.x = x ∧ e.n.po = po ∧ e = ⟨⟨x, po, f.st, f.le⟩, P⟩) := by rw [hee]; exact ⟨rfl, rfl, HFX.out, rfl, by rw [← HFX.out]⟩
    have HPO : Hid (P ≠ O) := by have h1 := HH.out.2.2.2.1.lt; have h2 := HOY.out; show P ≠ O; omega
    have H5 : Hid (TA w5 t M N c E ∧ TupAt w5 O x ∧ FloAt w5 e.P e.n ∧ Ch (fun q => q = M ∨ q = N ∨ q = P) w w5) := by
     have k5 := (Ch.refl (fun q => q = P) w4).set ⟨P, 37, none⟩ (.int .i64 po) rfl
     rw [← hw5] at k5
     refine ⟨H4.out.1.ch k5 (fun q hq hqp => ?_), H4.out.2.1.ch k5 (fun q => HPO.out (show O = P from q).symm), ?_, ((Ch.ofBelow H4.out.2.2.1).trans k5 (fun _ _ h => .inr (.inr h)))⟩
     · have hqp' : q = P := hqp
       subst hqp'
       rcases hq with h | h | h | ⟨a, ha, h⟩
       · exact flo_tbl H4.out.1.cb H4.out.2.2.2 h
       · obtain ⟨D, hD⟩ := H4.out.1.ma
         obtain ⟨es, ck, hb⟩ := hD.blk
         exact flo_ne H4.out.2.2.2 hb h
       · obtain ⟨D, hD⟩ := H4.out.1.mb
         obtain ⟨es, ck, hb⟩ := hD.blk
         exact flo_ne H4.out.2.2.2 hb h
       · exact HH.out.2.2.2.2.1 a ha h.symm
     · rw [HE.out.1, HE.out.2.1, hw5]
       exact FloAt.set H4.out.2.2.2 37 (.int .i64 po) (set_po _ _)
    clear hw5 c37 f37 hee
    obtain ⟨D, hD⟩ := H5.out.1.ma
    obtain ⟨D', hD'⟩ := H5.out.1.mb
    obtain ⟨kl, hkl⟩ := kv_key x HH.out.2.2.2.2.2.1
    have HD : Hid (MA w5 M D (E.map FV.kp) ∧ MB w5 N D' ((E.filter isF).map FV.kq) ∧ keyOf Tryz.prog 38 (.agg (tuC x)) = some kl ∧ fnd (E.map FV.kp) x = none) := ⟨hD, hD', hkl, by rw [fnd_fF, HH.out.2.2.2.2.2.2.2]; rfl⟩
    clear hD hD' hkl
    refine MixH.start (fun A => TblAt A t c M N ∧ TupAt A O x) (by kernel_rfl) ?_
    obtain ⟨wB, hwA⟩ : ∃ wA, wA = w5.drew := ⟨_, rfl⟩
    have bdr := zDr hwA
    have hS : TblAt wB t c M N ∧ TupAt wB O x := ⟨TblAt.below H5.out.1.cb bdr, H5.out.2.1.below bdr⟩
    have HB : Hid (TA wB t M N c E ∧ TupAt wB O x ∧ FloAt wB e.P e.n ∧ Ch (fun q => q = M ∨ q = N ∨ q = P) w wB ∧ MA wB M D (E.map FV.kp) ∧ MB wB N D' ((E.filter isF).map FV.kq)) := ⟨H5.out.1.below bdr, hS.2, H5.out.2.2.1.below bdr, H5.out.2.2.2.trans (Ch.ofBelow (S := fun _ => False) bdr) (fun _ _ h => h.elim), HD.out.1.below bdr, HD.out.2.1.below bdr⟩
    rw [← hwA]
    clear hwA bdr
    refine MixH.tks [true, true, true, false, false, true] 3 hS (fun K hK => ?_)
    simp only [Mix.pick]
    repeat (go_big_quiet_step (fail))
    refine wpQuiet_nil (hK _ ?_)
    clear hK K
    refine MixH.tk 2 3 rfl (.map (some M)) (yields_map (.tmp 49) rfl ⟨t, 25, none⟩ (.map (some M)) rfl rfl (fun A hA => TblAt.mp hA.1)) hS (fun a' ha => ?_)
    simp only [zP1, zP2, zP3, zP4] at ha
    subst ha
    refine MixH.tk 1 4 rfl (.agg (tuC x)) (yields_tup (.tmp 5) rfl O 0 x rfl rfl (fun A hA => hA.2.all)) hS (fun a' ha => ?_)
    simp only [zP1, zP2, zP3, zP4] at ha
    subst ha
    refine MixH.one [false, false, false, false, false, false, true] 0 6 _ rfl rfl (by kernel_rfl) (by kernel_rfl) (fun K hK => ?_)
    simp only [Mix.pick]
    refine wpList_put_ma rfl rfl (.tmp 50) (.tmp 51) (.tmp 52) rfl M D (E.map FV.kp) HB.out.2.2.2.2.1 x P kl HD.out.2.2.1 HD.out.2.2.2 HH.out.2.2.2.2.2.1 (by rw [List.length_map]; have := HH.out.2.2.1; omega) rfl rfl rfl ?_
    intro w6 hM6 k6
    have H6 : Hid (MA w6 M (D.put kl (.held (.pointer (some ⟨P, 0, none⟩)))) ((E ++ [e]).map FV.kp) ∧ Ch (fun q => q = M) wB w6 ∧ TupAt w6 O x) := by
     refine ⟨?_, k6, ?_⟩
     · rw [List.map_append]
       have : [e].map FV.kp = [⟨x, P⟩] := by show [FV.kp e] = _; unfold FV.kp; rw [HE.out.2.2.1, HE.out.1]
       rw [this]
       exact hM6
     · obtain ⟨es, ck, hb⟩ := HB.out.2.2.2.2.1.blk
       exact HB.out.2.1.ch k6 (tup_ne HB.out.2.1 hb)
    have hS6 : TblAt w6 t c M N ∧ TupAt w6 O x := ⟨TblAt.ch hS.1 k6 HB.out.1.nt.1, H6.out.2.2⟩
    clear hM6 k6 hS
    have hS := hS6
    clear hS6
    go_wp2_with fail
    refine ⟨rfl, hK _ _ hS ?_⟩
    clear hK K
    refine MixH.done (by kernel_rfl) ?_
    have HS : Hid (TblAt w6 t c M N ∧ TupAt w6 O x) := hS
    have c1 := hS.2.c1
    clear hS
    obtain ⟨b7, hb7⟩ : ∃ b, (x.sV == 4) = b := ⟨_, rfl⟩
    have HB7 : Hid ((x.sV == 4) = b7) := hb7
    have HIF : Hid (isF e = b7) := by show isF e = b7; unfold isF; rw [HE.out.2.2.1]; exact hb7
    cases b7 with
    | false =>
     go_wp2_with fail
     go_ret
     refine ⟨by rw [HG3.out]; rfl, .inr ⟨HG3.out, po, HFO.out, ?_, ?_⟩⟩
     · have h1 : MB w6 N D' (((E ++ [e]).filter isF).map FV.kq) := by
        rw [List.filter_append, show [e].filter isF = [] by simp [HIF.out], List.append_nil]
        exact HB.out.2.2.2.2.2.ch H6.out.2.1 (fun q => HB.out.1.mn (show N = M from q).symm)
       rw [← HE.out.2.2.2.2]
       exact HB.out.1.added H6.out.1 h1 (H6.out.2.1.mono (fun _ _ h => .inl h)) HB.out.2.2.1 (by rw [HE.out.1]; exact HH.out.2.2.2.2.1)
     · exact HB.out.2.2.2.1.trans H6.out.2.1 (fun _ _ h => .inl h)
    | true =>
     have HFB : Hid (frB E x.pr po = true ∧ 1 ≤ po ∧ po ≤ 65535) := by
      obtain ⟨a1, a2, a3⟩ := fpO_some HFO.out HH.out.2.1 (i4_n6 HB7.out)
      have a4 := HH.out.2.1.lo
      have a5 := HH.out.2.1.tp
      exact ⟨a1, by omega, by omega⟩
     have HPW : Hid (PL.Wf ⟨x.pr, po⟩) := ⟨HH.out.2.2.2.2.2.1.pr, wf_i64 (n := po) (by have := HFB.out; omega) (by have := HFB.out; omega)⟩
     obtain ⟨kq, hkq⟩ := pl_key ⟨x.pr, po⟩ HPW.out
     have HKQ : Hid (keyOf Tryz.prog 102 (.agg (plC ⟨x.pr, po⟩)) = some kq ∧ fnq ((E.filter isF).map FV.kq) ⟨x.pr, po⟩ = none ∧ MB w6 N D' ((E.filter isF).map FV.kq)) := by
      refine ⟨hkq, ?_, HB.out.2.2.2.2.2.ch H6.out.2.1 (fun q => HB.out.1.mn (show N = M from q).symm)⟩
      rw [fnq_fQ]
      have := HFB.out.1
      unfold frB at this
      rw [Option.isNone_iff_eq_none] at this
      rw [this]
      rfl
     clear hkq
     go_upto_region 12 with fail
     clear c1 hb7
     refine MixH.start (fun A => TblAt A t c M N ∧ TupAt A O x) (by kernel_rfl) ?_
     obtain ⟨wC, hwA⟩ : ∃ wA, wA = w6.drew := ⟨_, rfl⟩
     have bdr := zDr hwA
     have hS : TblAt wC t c M N ∧ TupAt wC O x := ⟨TblAt.below HS.out.1 bdr, HS.out.2.below bdr⟩
     have HC : Hid (MB wC N D' ((E.filter isF).map FV.kq) ∧ Below w6.heap.size w6 wC) := ⟨HKQ.out.2.2.below bdr, bdr⟩
     rw [← hwA]
     clear hwA bdr
     refine MixH.tks [true, true, true, false, true, false, true, false, true] 4 hS (fun K hK => ?_)
     simp only [Mix.pick]
     repeat (go_big_quiet_step (fail))
     refine wpQuiet_nil (hK _ ?_)
     clear hK K
     refine MixH.tk 3 3 rfl (.map (some N)) (yields_mapq (.tmp 59) rfl ⟨t, 26, none⟩ (.map (some N)) rfl rfl (fun A hA => TblAt.mq hA.1)) hS (fun a' ha => ?_)
     simp only [zP1, zP2, zP3, zP4] at ha
     subst ha
     refine MixH.tk 2 5 rfl (.int .i64 x.pr) (yields_int (.tmp 61) rfl ⟨O, 0, none⟩ (.int .i64 x.pr) rfl rfl (fun A hA => hA.2.c0)) hS (fun a' ha => ?_)
     simp only [zP1, zP2, zP3, zP4] at ha
     subst ha
     refine MixH.tk 1 7 rfl (.agg (plC ⟨x.pr, po⟩)) (yields_buildpl (.tmp 62) (.tmp 63) rfl x.pr po rfl rfl rfl) hS (fun a' ha => ?_)
     simp only [zP1, zP2, zP3, zP4] at ha
     subst ha
     refine MixH.one [false, false, false, false, false, false, false, false, false, true] 0 9 _ rfl rfl (by kernel_rfl) (by kernel_rfl) (fun K hK => ?_)
     simp only [Mix.pick]
     refine wpList_put_mb rfl rfl (.tmp 60) (.tmp 64) (.tmp 65) rfl N D' ((E.filter isF).map FV.kq) HC.out.1 ⟨x.pr, po⟩ P kq HKQ.out.1 HKQ.out.2.1 HPW.out (by rw [List.length_map]; have := HH.out.2.2.1; have := List.length_filter_le isF E; omega) rfl rfl rfl ?_
     intro w7 hM7 k7
     have H7 : Hid (MB w7 N (D'.put kq (.held (.pointer (some ⟨P, 0, none⟩)))) (((E ++ [e]).filter isF).map FV.kq) ∧ Ch (fun q => q = N) wC w7) := by
      refine ⟨?_, k7⟩
      rw [List.filter_append, show [e].filter isF = [e] by simp [HIF.out], List.map_append]
      have : [e].map FV.kq = [⟨⟨x.pr, po⟩, P⟩] := by show [FV.kq e] = _; unfold FV.kq; rw [HE.out.2.2.1, HE.out.1, HE.out.2.2.2.1]
      rw [this]
      exact hM7
     have hS7 : TblAt w7 t c M N ∧ TupAt w7 O x := by
      obtain ⟨es, ck, hb⟩ := HC.out.1.blk
      exact ⟨TblAt.ch hS.1 k7 HB.out.1.nt.2.1, hS.2.ch k7 (tup_ne hS.2 hb)⟩
     clear hM7 k7 hS
     have hS := hS7
     clear hS7
     go_wp2_with fail
     refine ⟨rfl, hK _ _ hS ?_⟩
     clear hK K
     refine MixH.done (by kernel_rfl) ?_
     clear hS
     go_wp2_with fail
     go_ret
     have k8 : Ch (fun q => q = N) w6 w7 := (Ch.ofBelow HC.out.2).trans H7.out.2 (fun _ _ h => h)
     refine ⟨by rw [HG3.out]; rfl, .inr ⟨HG3.out, po, HFO.out, ?_, ?_⟩⟩
     · rw [← HE.out.2.2.2.2]
       exact HB.out.1.added (H6.out.1.ch k8 HB.out.1.mn) H7.out.1 ((H6.out.2.1.mono (fun _ _ h => .inl h)).trans k8 (fun _ _ h => .inr h)) HB.out.2.2.1 (by rw [HE.out.1]; exact HH.out.2.2.2.2.1)
     · exact (HB.out.2.2.2.1.trans H6.out.2.1 (fun _ _ h => .inl h)).trans k8 (fun _ _ h => .inr (.inl h))
 | true =>
  cases b2 with
  | false =>
   go_wp2_with fail
   go_ret
   exact ⟨by rw [HBG.out]; rfl, .inl ⟨by rw [HBG.out]; simp, H3.out.2.2.1⟩⟩
  | true =>
   cases b3 with
   | true =>
    go_wp2_with fail
    go_ret
    exact ⟨by rw [HBG.out]; rfl, .inl ⟨by rw [HBG.out]; simp, H3.out.2.2.1⟩⟩
   | false =>
    have HG2 : Hid (bgE c E x = if b4 then 171 else if (fpO c E x).isNone then 172 else 0) := by show _ = _; rw [HBG.out]; rfl
    clear HBG
    have q4 := HB4.out
    go_upto_region 4 with fail
    clear c35 c36
    refine MixH.start (fun A => TA A t M N c E ∧ TupAt A O x) (by kernel_rfl) ?_
    obtain ⟨wA, hwA⟩ : ∃ wA, wA = w3.drew := ⟨_, rfl⟩
    have bdr := zDr hwA
    have hS : TA wA t M N c E ∧ TupAt wA O x := ⟨H3.out.1.below bdr, H3.out.2.1.below bdr⟩
    have HA : Hid (TA wA t M N c E ∧ TupAt wA O x ∧ Below w.heap.size w wA ∧ FloAt wA P f) := ⟨hS.1, hS.2, bthen H3.out.2.2.1 bdr, H3.out.2.2.2.below bdr⟩
    rw [← hwA]
    clear hwA bdr
    refine MixH.tks [true, true, true, false, false, true, true, true, true] 4 hS (fun K hK => ?_)
    simp only [Mix.pick]
    repeat (go_big_quiet_step (fail))
    refine wpQuiet_nil (hK _ ?_)
    clear hK K
    refine MixH.tk 3 3 rfl (.map (some M)) (yields_map (.tmp 26) rfl ⟨t, 25, none⟩ (.map (some M)) rfl rfl (fun A hA => TblAt.mp hA.1.cb)) hS (fun a' ha => ?_)
    simp only [zP1, zP2, zP3, zP4] at ha
    subst ha
    refine MixH.tk 2 4 rfl (.int .i64 (E.length : Nat)) (yields_lenM (.tmp 27) rfl t M N c E rfl rfl (fun A hA => hA.1)) hS (fun a' ha => ?_)
    simp only [zP1, zP2, zP3, zP4] at ha
    subst ha
    refine MixH.tk 1 9 rfl (.int .i64 c.mx) (yields_int (.tmp 32) rfl ⟨t, 0, none⟩ (.int .i64 c.mx) rfl rfl (fun A hA => TblAt.c0 hA.1.cb)) hS (fun a' ha => ?_)
    simp only [zP1, zP2, zP3, zP4] at ha
    subst ha
    refine MixH.tks [false, false, false, false, false, false, false, false, false, false, true] 0 hS (fun K hK => ?_)
    simp only [Mix.pick]
    repeat (go_big_quiet_step (fail))
    refine wpQuiet_nil (hK _ ?_)
    clear hK K
    refine MixH.done (by kernel_rfl) ?_
    clear hS
    cases b4 with
    | true =>
     go_wp2_with fail
     go_ret
     exact ⟨by rw [HG2.out]; rfl, .inl ⟨by rw [HG2.out]; simp, HA.out.2.2.1⟩⟩
    | false =>
     have QF : Hid _ := freePort_any t M N c E wA HA.out.1 HH.out.2.1 x HH.out.2.2.2.2.2.1
     obtain ⟨fo, hfo⟩ : ∃ fo, fpO c E x = fo := ⟨_, rfl⟩
     rw [hfo] at QF
     have HFO : Hid (fpO c E x = fo) := hfo
     clear hfo
     go_wp2_with (first | (refine wpList_load_tup (.tmp 5) rfl O x rfl HA.out.2.1 rfl ?_))
     refine Calls.mono QF.out ?_
     rintro e1 w4 ⟨rfl, b4'⟩
     have H4 : Hid (TA w4 t M N c E ∧ TupAt w4 O x ∧ Below w.heap.size w w4 ∧ FloAt w4 P f) := ⟨HA.out.1.below b4', HA.out.2.1.below b4', bthen HA.out.2.2.1 b4', HA.out.2.2.2.below b4'⟩
     clear b4' QF HA H3
     cases fo with
     | none =>
      have HG3 : Hid (bgE c E x = 172) := by show _ = _; rw [HG2.out, HFO.out]; rfl
      simp only [okV]
      go_wp2_with fail
      go_ret
      exact ⟨by rw [HG3.out]; rfl, .inl ⟨by rw [HG3.out]; decide, H4.out.2.2.1⟩⟩
     | some po =>
      have HG3 : Hid (bgE c E x = 0) := by show _ = _; rw [HG2.out, HFO.out]; rfl
      have c37 := H4.out.2.2.2.c37
      have f37 := H4.out.2.2.2.fz 37
      simp only [okV]
      go_upto_region 10 with fail
      obtain ⟨w5, hw5⟩ : ∃ w5, w5 = w4.setCell ⟨P, 37, none⟩ (.int .i64 po) := ⟨_, rfl⟩
      rw [← hw5]
      obtain ⟨e, hee⟩ : ∃ e : FV, e = ⟨{ f with po := po }, P⟩ := ⟨_, rfl⟩
      have HE : Hid (e.P = P ∧ e.n = { f with po := po } ∧ e.n.x = x ∧ e.n.po = po ∧ e = ⟨⟨x, po, f.st, f.le⟩, P⟩) := by rw [hee]; exact ⟨rfl, rfl, HFX.out, rfl, by rw [← HFX.out]⟩
      have HPO : Hid (P ≠ O) := by have h1 := HH.out.2.2.2.1.lt; have h2 := HOY.out; show P ≠ O; omega
      have H5 : Hid (TA w5 t M N c E ∧ TupAt w5 O x ∧ FloAt w5 e.P e.n ∧ Ch (fun q => q = M ∨ q = N ∨ q = P) w w5) := by
       have k5 := (Ch.refl (fun q => q = P) w4).set ⟨P, 37, none⟩ (.int .i64 po) rfl
       rw [← hw5] at k5
       refine ⟨H4.out.1.ch k5 (fun q hq hqp => ?_), H4.out.2.1.ch k5 (fun q => HPO.out (show O = P from q).symm), ?_, ((Ch.ofBelow H4.out.2.2.1).trans k5 (fun _ _ h => .inr (.inr h)))⟩
       · have hqp' : q = P := hqp
         subst hqp'
         rcases hq with h | h | h | ⟨a, ha, h⟩
         · exact flo_tbl H4.out.1.cb H4.out.2.2.2 h
         · obtain ⟨D, hD⟩ := H4.out.1.ma
           obtain ⟨es, ck, hb⟩ := hD.blk
           exact flo_ne H4.out.2.2.2 hb h
         · obtain ⟨D, hD⟩ := H4.out.1.mb
           obtain ⟨es, ck, hb⟩ := hD.blk
           exact flo_ne H4.out.2.2.2 hb h
         · exact HH.out.2.2.2.2.1 a ha h.symm
       · rw [HE.out.1, HE.out.2.1, hw5]
         exact FloAt.set H4.out.2.2.2 37 (.int .i64 po) (set_po _ _)
      clear hw5 c37 f37 hee
      obtain ⟨D, hD⟩ := H5.out.1.ma
      obtain ⟨D', hD'⟩ := H5.out.1.mb
      obtain ⟨kl, hkl⟩ := kv_key x HH.out.2.2.2.2.2.1
      have HD : Hid (MA w5 M D (E.map FV.kp) ∧ MB w5 N D' ((E.filter isF).map FV.kq) ∧ keyOf Tryz.prog 38 (.agg (tuC x)) = some kl ∧ fnd (E.map FV.kp) x = none) := ⟨hD, hD', hkl, by rw [fnd_fF, HH.out.2.2.2.2.2.2.2]; rfl⟩
      clear hD hD' hkl
      refine MixH.start (fun A => TblAt A t c M N ∧ TupAt A O x) (by kernel_rfl) ?_
      obtain ⟨wB, hwA⟩ : ∃ wA, wA = w5.drew := ⟨_, rfl⟩
      have bdr := zDr hwA
      have hS : TblAt wB t c M N ∧ TupAt wB O x := ⟨TblAt.below H5.out.1.cb bdr, H5.out.2.1.below bdr⟩
      have HB : Hid (TA wB t M N c E ∧ TupAt wB O x ∧ FloAt wB e.P e.n ∧ Ch (fun q => q = M ∨ q = N ∨ q = P) w wB ∧ MA wB M D (E.map FV.kp) ∧ MB wB N D' ((E.filter isF).map FV.kq)) := ⟨H5.out.1.below bdr, hS.2, H5.out.2.2.1.below bdr, H5.out.2.2.2.trans (Ch.ofBelow (S := fun _ => False) bdr) (fun _ _ h => h.elim), HD.out.1.below bdr, HD.out.2.1.below bdr⟩
      rw [← hwA]
      clear hwA bdr
      refine MixH.tks [true, true, true, false, false, true] 3 hS (fun K hK => ?_)
      simp only [Mix.pick]
      repeat (go_big_quiet_step (fail))
      refine wpQuiet_nil (hK _ ?_)
      clear hK K
      refine MixH.tk 2 3 rfl (.map (some M)) (yields_map (.tmp 49) rfl ⟨t, 25, none⟩ (.map (some M)) rfl rfl (fun A hA => TblAt.mp hA.1)) hS (fun a' ha => ?_)
      simp only [zP1, zP2, zP3, zP4] at ha
      subst ha
      refine MixH.tk 1 4 rfl (.agg (tuC x)) (yields_tup (.tmp 5) rfl O 0 x rfl rfl (fun A hA => hA.2.all)) hS (fun a' ha => ?_)
      simp only [zP1, zP2, zP3, zP4] at ha
      subst ha
      refine MixH.one [false, false, false, false, false, false, true] 0 6 _ rfl rfl (by kernel_rfl) (by kernel_rfl) (fun K hK => ?_)
      simp only [Mix.pick]
      refine wpList_put_ma rfl rfl (.tmp 50) (.tmp 51) (.tmp 52) rfl M D (E.map FV.kp) HB.out.2.2.2.2.1 x P kl HD.out.2.2.1 HD.out.2.2.2 HH.out.2.2.2.2.2.1 (by rw [List.length_map]; have := HH.out.2.2.1; omega) rfl rfl rfl ?_
      intro w6 hM6 k6
      have H6 : Hid (MA w6 M (D.put kl (.held (.pointer (some ⟨P, 0, none⟩)))) ((E ++ [e]).map FV.kp) ∧ Ch (fun q => q = M) wB w6 ∧ TupAt w6 O x) := by
       refine ⟨?_, k6, ?_⟩
       · rw [List.map_append]
         have : [e].map FV.kp = [⟨x, P⟩] := by show [FV.kp e] = _; unfold FV.kp; rw [HE.out.2.2.1, HE.out.1]
         rw [this]
         exact hM6
       · obtain ⟨es, ck, hb⟩ := HB.out.2.2.2.2.1.blk
         exact HB.out.2.1.ch k6 (tup_ne HB.out.2.1 hb)
      have hS6 : TblAt w6 t c M N ∧ TupAt w6 O x := ⟨TblAt.ch hS.1 k6 HB.out.1.nt.1, H6.out.2.2⟩
      clear hM6 k6 hS
      have hS := hS6
      clear hS6
      go_wp2_with fail
      refine ⟨rfl, hK _ _ hS ?_⟩
      clear hK K
      refine MixH.done (by kernel_rfl) ?_
      have HS : Hid (TblAt w6 t c M N ∧ TupAt w6 O x) := hS
      have c1 := hS.2.c1
      clear hS
      obtain ⟨b7, hb7⟩ : ∃ b, (x.sV == 4) = b := ⟨_, rfl⟩
      have HB7 : Hid ((x.sV == 4) = b7) := hb7
      have HIF : Hid (isF e = b7) := by show isF e = b7; unfold isF; rw [HE.out.2.2.1]; exact hb7
      cases b7 with
      | false =>
       go_wp2_with fail
       go_ret
       refine ⟨by rw [HG3.out]; rfl, .inr ⟨HG3.out, po, HFO.out, ?_, ?_⟩⟩
       · have h1 : MB w6 N D' (((E ++ [e]).filter isF).map FV.kq) := by
          rw [List.filter_append, show [e].filter isF = [] by simp [HIF.out], List.append_nil]
          exact HB.out.2.2.2.2.2.ch H6.out.2.1 (fun q => HB.out.1.mn (show N = M from q).symm)
         rw [← HE.out.2.2.2.2]
         exact HB.out.1.added H6.out.1 h1 (H6.out.2.1.mono (fun _ _ h => .inl h)) HB.out.2.2.1 (by rw [HE.out.1]; exact HH.out.2.2.2.2.1)
       · exact HB.out.2.2.2.1.trans H6.out.2.1 (fun _ _ h => .inl h)
      | true =>
       have HFB : Hid (frB E x.pr po = true ∧ 1 ≤ po ∧ po ≤ 65535) := by
        obtain ⟨a1, a2, a3⟩ := fpO_some HFO.out HH.out.2.1 (i4_n6 HB7.out)
        have a4 := HH.out.2.1.lo
        have a5 := HH.out.2.1.tp
        exact ⟨a1, by omega, by omega⟩
       have HPW : Hid (PL.Wf ⟨x.pr, po⟩) := ⟨HH.out.2.2.2.2.2.1.pr, wf_i64 (n := po) (by have := HFB.out; omega) (by have := HFB.out; omega)⟩
       obtain ⟨kq, hkq⟩ := pl_key ⟨x.pr, po⟩ HPW.out
       have HKQ : Hid (keyOf Tryz.prog 102 (.agg (plC ⟨x.pr, po⟩)) = some kq ∧ fnq ((E.filter isF).map FV.kq) ⟨x.pr, po⟩ = none ∧ MB w6 N D' ((E.filter isF).map FV.kq)) := by
        refine ⟨hkq, ?_, HB.out.2.2.2.2.2.ch H6.out.2.1 (fun q => HB.out.1.mn (show N = M from q).symm)⟩
        rw [fnq_fQ]
        have := HFB.out.1
        unfold frB at this
        rw [Option.isNone_iff_eq_none] at this
        rw [this]
        rfl
       clear hkq
       go_upto_region 12 with fail
       clear c1 hb7
       refine MixH.start (fun A => TblAt A t c M N ∧ TupAt A O x) (by kernel_rfl) ?_
       obtain ⟨wC, hwA⟩ : ∃ wA, wA = w6.drew := ⟨_, rfl⟩
       have bdr := zDr hwA
       have hS : TblAt wC t c M N ∧ TupAt wC O x := ⟨TblAt.below HS.out.1 bdr, HS.out.2.below bdr⟩
       have HC : Hid (MB wC N D' ((E.filter isF).map FV.kq) ∧ Below w6.heap.size w6 wC) := ⟨HKQ.out.2.2.below bdr, bdr⟩
       rw [← hwA]
       clear hwA bdr
       refine MixH.tks [true, true, true, false, true, false, true, false, true] 4 hS (fun K hK => ?_)
       simp only [Mix.pick]
       repeat (go_big_quiet_step (fail))
       refine wpQuiet_nil (hK _ ?_)
       clear hK K
       refine MixH.tk 3 3 rfl (.map (some N)) (yields_mapq (.tmp 59) rfl ⟨t, 26, none⟩ (.map (some N)) rfl rfl (fun A hA => TblAt.mq hA.1)) hS (fun a' ha => ?_)
       simp only [zP1, zP2, zP3, zP4] at ha
       subst ha
       refine MixH.tk 2 5 rfl (.int .i64 x.pr) (yields_int (.tmp 61) rfl ⟨O, 0, none⟩ (.int .i64 x.pr) rfl rfl (fun A hA => hA.2.c0)) hS (fun a' ha => ?_)
       simp only [zP1, zP2, zP3, zP4] at ha
       subst ha
       refine MixH.tk 1 7 rfl (.agg (plC ⟨x.pr, po⟩)) (yields_buildpl (.tmp 62) (.tmp 63) rfl x.pr po rfl rfl rfl) hS (fun a' ha => ?_)
       simp only [zP1, zP2, zP3, zP4] at ha
       subst ha
       refine MixH.one [false, false, false, false, false, false, false, false, false, true] 0 9 _ rfl rfl (by kernel_rfl) (by kernel_rfl) (fun K hK => ?_)
       simp only [Mix.pick]
       refine wpList_put_mb rfl rfl (.tmp 60) (.tmp 64) (.tmp 65) rfl N D' ((E.filter isF).map FV.kq) HC.out.1 ⟨x.pr, po⟩ P kq HKQ.out.1 HKQ.out.2.1 HPW.out (by rw [List.length_map]; have := HH.out.2.2.1; have := List.length_filter_le isF E; omega) rfl rfl rfl ?_
       intro w7 hM7 k7
       have H7 : Hid (MB w7 N (D'.put kq (.held (.pointer (some ⟨P, 0, none⟩)))) (((E ++ [e]).filter isF).map FV.kq) ∧ Ch (fun q => q = N) wC w7) := by
        refine ⟨?_, k7⟩
        rw [List.filter_append, show [e].filter isF = [e] by simp [HIF.out], List.map_append]
        have : [e].map FV.kq = [⟨⟨x.pr, po⟩, P⟩] := by show [FV.kq e] = _; unfold FV.kq; rw [HE.out.2.2.1, HE.out.1, HE.out.2.2.2.1]
        rw [this]
        exact hM7
       have hS7 : TblAt w7 t c M N ∧ TupAt w7 O x := by
        obtain ⟨es, ck, hb⟩ := HC.out.1.blk
        exact ⟨TblAt.ch hS.1 k7 HB.out.1.nt.2.1, hS.2.ch k7 (tup_ne hS.2 hb)⟩
       clear hM7 k7 hS
       have hS := hS7
       clear hS7
       go_wp2_with fail
       refine ⟨rfl, hK _ _ hS ?_⟩
       clear hK K
       refine MixH.done (by kernel_rfl) ?_
       clear hS
       go_wp2_with fail
       go_ret
       have k8 : Ch (fun q => q = N) w6 w7 := (Ch.ofBelow HC.out.2).trans H7.out.2 (fun _ _ h => h)
       refine ⟨by rw [HG3.out]; rfl, .inr ⟨HG3.out, po, HFO.out, ?_, ?_⟩⟩
       · rw [← HE.out.2.2.2.2]
         exact HB.out.1.added (H6.out.1.ch k8 HB.out.1.mn) H7.out.1 ((H6.out.2.1.mono (fun _ _ h => .inl h)).trans k8 (fun _ _ h => .inr h)) HB.out.2.2.1 (by rw [HE.out.1]; exact HH.out.2.2.2.2.1)
       · exact (HB.out.2.2.2.1.trans H6.out.2.1 (fun _ _ h => .inl h)).trans k8 (fun _ _ h => .inr (.inl h))
end Go.Proofs.YtclpeepnngegaaaGreatDoor
