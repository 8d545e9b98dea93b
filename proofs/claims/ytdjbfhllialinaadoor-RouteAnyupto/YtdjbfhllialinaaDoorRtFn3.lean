/-
  Layer 14: Add, Drop.
-/
import Derived.Test.YtdjbfhllialinaaDoorRtFn2
namespace Go.Proofs.YtdjbfhllialinaaDoor
open Go.RowKit Go.Maps

def addE (R : List RV) (r : RV) : Nat := if chkR r = 0 then (if (fnd R r.p).isSome = true then 143 else if 256 ≤ R.length then 144 else 0) else chkR r
def addR (R : List RV) (r : RV) : List RV := if addE R r = 0 then R ++ [r] else R
theorem zeroR (w : World) : (zeroValue 29).run Tryd.prog w = .ok (.agg (rtC rz)) w := by kernel_rfl
def lookV (R : List RV) (p : PV) : Value := .tuple #[.agg (rtC ((fnd R p).getD rz)), .bool (fnd R p).isSome]
theorem TabAt.look {w : World} {t M : Nat} {D : DataW Value} {R : List RV} (h : TabAt w t M D R) (p : PV) (kl : Lit) (hk : keyOf Tryd.prog 27 (.agg (pfC p)) = some kl) : (Instr.lookup 48 (.map (some M)) (.agg (pfC p)) true).run Tryd.prog w = .ok (lookV R p) w := by
  obtain ⟨v, ps, hrun, hv⟩ := h.mo.look_ok lawR Tryd.underlying48 (zeroR w) (zd := .held (.agg (rtC rz))) (zp := []) rfl hk
  rw [(h.hs p kl hk).2] at hv
  have hv' : some ((DataW.held v : DataW Value), ([] : List MemPlace)) = some (.held (.agg (rtC ((fnd R p).getD rz))), ps) := hv
  simp only [Option.some.injEq, Prod.mk.injEq, DataW.held.injEq] at hv'
  rw [hrun, hv'.1, (h.hs p kl hk).1]
  rfl
theorem yields_lookr {ops : Array Oper} {o : Oper} {a : Act} {S : World → Prop} (m x : Operand) (ho : o.op = .lookup 48 m x true) (t M : Nat) (D : DataW Value) (R : List RV) (p : PV) (kl : Lit) (hm : a.eval m = .map (some M)) (hx : a.eval x = .agg (pfC p)) (hk : keyOf Tryd.prog 27 (.agg (pfC p)) = some kl) (hw : Region.wanted o (yielded ops a.tmps) = true)
    (hS : ∀ w, S w → TabAt w t M D R) : YieldsIf Tryd.prog ops S o (lookV R p) a := by
  refine .inl ⟨hw, fun w hb => ?_⟩
  have hrun := (hS w hb).look p kl hk
  obtain ⟨dst, op, type, pos, after, guard⟩ := o
  simp only at ho
  subst ho
  simp only [execOp, Sem.run_bind, Sem.run_pure, hm, hx, hrun, Result.andThen_ok]
theorem yields_map {ops : Array Oper} {o : Oper} {a : Act} {S : World → Prop} (x : Operand) (ho : o.op = .load 48 x) (p : Addr) (u : Value) (hx : a.eval x = .pointer (some p)) (hw : Region.wanted o (yielded ops a.tmps) = true) (hS : ∀ w, S w → w.cell? p = some u) : YieldsIf Tryd.prog ops S o u a := by
  refine .inl ⟨hw, fun w hb => ?_⟩
  have hc := hS w hb
  have hu := Tryd.underlying48
  obtain ⟨dst, op, type, pos, after, guard⟩ := o
  simp only at ho
  subst ho
  simp only [execOp, Sem.run_bind, Sem.run_pure]
  rw [hx]
  simp [Instr.loadAt, go_sem, hc]
theorem PfxAt.all {w : World} {O : Nat} {p : PV} (h : PfxAt w O p) : w.rangeAt O 0 (pfC p).toList := by
  intro j v hj
  rw [Nat.zero_add, h.cell]
  simpa using hj
theorem ch_turned {w w' : World} {b : Nat} (h : w.mapTurned w' b) : Ch (fun q => q = b) w w' := by
  obtain ⟨es, c, es', c', hb, rfl⟩ := h
  refine ⟨rfl, rfl, rfl, by simp [ChangeMaps.setBlock], fun k hk hne => ?_⟩
  exact ChangeMaps.heap_setBlock_other hb _ hne
theorem RteAt.all {w : World} {O : Nat} {r : RV} (h : RteAt w O r) : w.rangeAt O 0 (rtC r).toList := by
  intro j v hj
  rw [Nat.zero_add, h.cell]
  simpa using hj
set_option maxHeartbeats 3200000 in
set_option maxRecDepth 100000 in
theorem add_any (t M : Nat) (D : DataW Value) (R : List RV) (r : RV) (w : World) (h : TabAt w t M D R) (hs : Spe8 w) (hw : r.p.Wf) (hy : ∀ i, i < 16 → r.y i < 256) (hl : R.length ≤ 100000) :
    Calls Tryd.prog 6 #[.pointer (some ⟨t, 0, none⟩), .agg (rtC r)] w fun e w' => ∃ D', e = .returned (.int .i64 (addE R r : Nat)) ∧ TabAt w' t M D' (addR R r) ∧ Ch (fun q => q = M) w w' := by
  have hb := rte_new w r
  have bel : Below w.heap.size w (w.alloc (.cells (rtC r) 29)) := (Below.refl _ _).alloc (Nat.le_refl _) _
  obtain ⟨C, hC⟩ : ∃ C, C = rtC r := ⟨_, rfl⟩
  obtain ⟨W, hW⟩ : ∃ W, W = w.alloc (.cells (rtC r) 29) := ⟨_, rfl⟩
  rw [← hW] at hb bel
  obtain ⟨B, hB⟩ : ∃ B, B = w.heap.size := ⟨_, rfl⟩
  rw [← hB] at hb
  have HBX : Hid (RteAt W B r) := hb
  rw [← hC] at hW ⊢
  have HB : Hid (w.heap.size = B) := hB.symm
  have HBL : Hid (Below w.heap.size w W) := bel
  have HW : Hid (w.alloc (.cells C 29) = W) := hW.symm
  have QC : Hid _ := check_any r W (hs.old bel) hw.x hy
  obtain ⟨er, her⟩ : ∃ er, er = chkR r := ⟨_, rfl⟩
  rw [← her] at QC
  have HER : Hid (chkR r = er) := her.symm
  have HT : Hid (TabAt W t M D R) := h.below bel
  have HTL : Hid (t < w.heap.size ∧ M < w.heap.size) := h.lt
  have HWF : Hid r.p.Wf := hw
  obtain ⟨kl, hkl⟩ := kv_key r.p hw
  have HK : Hid (keyOf Tryd.prog 27 (.agg (pfC r.p)) = some kl) := hkl
  obtain ⟨N, hN⟩ : ∃ N, N = R.length := ⟨_, rfl⟩
  have HN : Hid (R.length = N) := hN.symm
  have hNl : N ≤ 100000 := by omega
  have KC : Hid (∀ A, Below w.heap.size w A → Ch (fun q => q = M) w A) := fun A hA => (Ch.ofBelow (S := fun _ => False) hA).mono (fun _ _ hq => hq.elim)
  clear hb hW hB hC her hkl hN bel hs hy hw h hl
  go_enter Tryd.func6, Tryd.ntmps6
  go_upto_region 1 with fail
  rw [HB.out, HW.out]
  go_wp2_with (first | (refine wpList_load_rte (.tmp 3) rfl B r rfl HBX.out rfl ?_))
  refine Calls.mono QC.out ?_
  rintro e w1 ⟨rfl, hb1⟩
  have HBX1 : Hid (RteAt w1 B r) := HBX.out.below hb1
  have HT1 : Hid (TabAt w1 t M D R) := HT.out.below hb1
  have HB1 : Hid (Below w.heap.size w w1) := bthen HBL.out hb1
  clear HBX HBL HT QC hb1 HW
  by_cases h0 : er = 0
  · subst h0
    obtain ⟨fo, hfo⟩ : ∃ fo, fo = (fnd R r.p).isSome := ⟨_, rfl⟩
    have HFO : Hid ((fnd R r.p).isSome = fo) := hfo.symm
    clear hfo
    go_upto_region 4 with fail
    go_cut [7] (fun kn wx => kn = .bool fo ∧ Hid (Below w.heap.size w wx ∧ TabAt wx t M D R ∧ RteAt wx B r))
    case first =>
      refine MixH.start (fun A => Below w.heap.size w A ∧ TabAt A t M D R ∧ RteAt A B r) (by kernel_rfl) ?_
      obtain ⟨wA, hwA⟩ : ∃ wA, wA = w1.drew := ⟨_, rfl⟩
      have bdr : Below w1.heap.size w1 wA := by rw [hwA]; exact (Below.refl _ _).drew
      have hS : Below w.heap.size w wA ∧ TabAt wA t M D R ∧ RteAt wA B r := ⟨bthen HB1.out bdr, HT1.out.below bdr, HBX1.out.below bdr⟩
      rw [← hwA]
      clear hwA
      refine MixH.takes [true, true, true, false, true] 9 (by kernel_rfl) (by kernel_rfl) (by decide) (by kernel_rfl) hS (fun K hK => ?_)
      simp only [Mix.pick]
      repeat (go_big_quiet_step (fail))
      refine wpQuiet_nil (hK _ ?_)
      clear hK K
      refine MixH.take 8 3 _ (.map (some M)) rfl (by kernel_rfl) (by kernel_rfl) (by kernel_rfl) (by kernel_rfl) (yields_map (.tmp 16) rfl ⟨t, 0, none⟩ (.map (some M)) rfl rfl (fun A hA => hA.2.1.c)) hS (fun a' ha => ?_)
      simp only [Act.put, List.setIfInBounds_toArray, List.set_cons_succ, List.set_cons_zero] at ha
      subst ha
      refine MixH.take 7 5 _ (.agg (pfC r.p)) rfl (by kernel_rfl) (by kernel_rfl) (by kernel_rfl) (by kernel_rfl) (yields_pfx (.tmp 18) rfl B 0 r.p rfl rfl (fun A hA => hA.2.2.pfx)) hS (fun a' ha => ?_)
      simp only [Act.put, List.setIfInBounds_toArray, List.set_cons_succ, List.set_cons_zero] at ha
      subst ha
      refine MixH.take 6 6 _ (lookV R r.p) rfl (by kernel_rfl) (by kernel_rfl) (by kernel_rfl) (by kernel_rfl) (yields_lookr (.tmp 17) (.tmp 19) rfl t M D R r.p kl rfl rfl HK.out rfl (fun A hA => hA.2.1)) hS (fun a' ha => ?_)
      simp only [Act.put, List.setIfInBounds_toArray, List.set_cons_succ, List.set_cons_zero] at ha
      subst ha
      simp only [lookV]
      refine MixH.takes [false, false, false, false, false, false, false, true, true, true] 3 (by kernel_rfl) (by kernel_rfl) (by decide) (by kernel_rfl) hS (fun K hK => ?_)
      simp only [Mix.pick]
      repeat (go_big_quiet_step (fail))
      refine wpQuiet_nil (hK _ ?_)
      clear hK K
      refine MixH.one [false, false, false, false, false, false, false, false, false, false, true] 2 10 _ rfl rfl (by kernel_rfl) (by kernel_rfl) (fun K hK => ?_)
      simp only [Mix.pick]
      refine wpList_alloc_rte rfl rfl ?_
      have bq : Below wA.heap.size wA (wA.alloc (.cells (rtC rz) 29)) := (Below.refl _ _).alloc (Nat.le_refl _) _
      have HQ := rte_new wA rz
      replace hS : Below w.heap.size w (wA.alloc (.cells (rtC rz) 29)) ∧ TabAt (wA.alloc (.cells (rtC rz) 29)) t M D R ∧ RteAt (wA.alloc (.cells (rtC rz) 29)) B r := ⟨bthen hS.1 bq, hS.2.1.below bq, hS.2.2.below bq⟩
      have HQL : w.heap.size ≤ wA.heap.size := Nat.le_trans HB1.out.size bdr.size
      clear bq
      go_wp2
      refine ⟨rfl, hK _ _ hS ?_⟩
      clear hK K
      refine MixH.one [false, false, false, false, false, false, false, false, false, false, false, true] 1 11 _ rfl rfl (by kernel_rfl) (by kernel_rfl) (fun K hK => ?_)
      simp only [Mix.pick]
      refine wpList_store_rte (.tmp 6) (.tmp 21) rfl rfl wA.heap.size rz ((fnd R r.p).getD rz) rfl rfl HQ rfl ?_
      intro wE hRE kE
      have hne : ¬ t = wA.heap.size ∧ ¬ M = wA.heap.size ∧ ¬ B = wA.heap.size := by
        have h1 := HTL.out
        have h2 := HB.out
        have h3 := HBX1.out.lt
        have h4 := bdr.size
        omega
      replace hS : Below w.heap.size w wE ∧ TabAt wE t M D R ∧ RteAt wE B r := ⟨hS.1.trans (kE.below (fun q e => by have e' : q = wA.heap.size := e; omega) hS.1.size), hS.2.1.ch kE hne.1 hne.2.1, hS.2.2.ch kE hne.2.2⟩
      have HEND : Hid (Below w.heap.size w wE ∧ TabAt wE t M D R ∧ RteAt wE B r) := hS
      clear hRE kE hne HQ HQL
      go_wp2
      refine ⟨rfl, hK _ _ hS ?_⟩
      clear hK K
      refine MixH.takes [false, false, false, false, false, false, false, false, false, false, false, false, true] 0 (by kernel_rfl) (by kernel_rfl) (by decide) (by kernel_rfl) hS (fun K hK => ?_)
      simp only [Mix.pick]
      repeat (go_big_quiet_step (fail))
      refine wpQuiet_nil (hK _ ?_)
      clear hK K
      refine MixH.done (by kernel_rfl) ?_
      go_wp2
      go_meet
      exact ⟨by rw [← HFO.out], HEND⟩
    case rest =>
      obtain ⟨rfl, HE⟩ := hcut
      cases fo with
      | true =>
        go_wp2
        go_ret
        refine ⟨D, ?_, ?_, KC.out wc HE.out.1⟩
        · unfold addE
          rw [if_pos HER.out, HFO.out, if_pos rfl]
          rfl
        · have e : addR R r = R := by unfold addR addE; rw [if_pos HER.out, HFO.out, if_pos rfl, if_neg (by decide)]
          rw [e]; exact HE.out.2.1
      | false =>
        have c := HE.out.2.1.c
        by_cases h2 : 256 ≤ N
        · have q2 : (256 : Int) ≤ (N : Int) := by omega
          have q3 : decide ((N : Int) ≥ 256) = true := by simp; omega
          go_wp2_with (first | (at_len; refine wpList_len_own _ rfl (.tmp 27) 48 rfl 27 29 Tryd.underlying48 anyE M R.length D rfl HE.out.2.1.mo ?_; rw [HE.out.2.1.sz, HN.out]))
          go_ret
          refine ⟨D, ?_, ?_, KC.out wc HE.out.1⟩
          · unfold addE
            rw [if_pos HER.out, HFO.out, if_neg (show ¬ false = true by decide), if_pos (by rw [HN.out]; exact h2)]
            rfl
          · have e0 : addE R r = 144 := by unfold addE; rw [if_pos HER.out, HFO.out, if_neg (show ¬ false = true by decide), if_pos (by rw [HN.out]; exact h2)]
            have e : addR R r = R := by unfold addR; rw [e0, if_neg (by decide)]
            rw [e]; exact HE.out.2.1
        · have q2 : ¬ (256 : Int) ≤ (N : Int) := by omega
          have q3 : decide ((N : Int) ≥ 256) = false := by simp; omega
          go_upto_region 7 with fail
          go_wp2_with (first | (at_len; refine wpList_len_own _ rfl (.tmp 27) 48 rfl 27 29 Tryd.underlying48 anyE M R.length D rfl HE.out.2.1.mo ?_; rw [HE.out.2.1.sz, HN.out]))
          go_upto_region 9 with fail
          refine MixH.start (fun A => A.cell? ⟨t, 0, none⟩ = some (.map (some M)) ∧ RteAt A B r) (by kernel_rfl) ?_
          obtain ⟨wA, hwA⟩ : ∃ wA, wA = wc.drew := ⟨_, rfl⟩
          have bdr : Below wc.heap.size wc wA := by rw [hwA]; exact (Below.refl _ _).drew
          have hS : wA.cell? ⟨t, 0, none⟩ = some (.map (some M)) ∧ RteAt wA B r := ⟨(HE.out.2.1.below bdr).c, HE.out.2.2.below bdr⟩
          have HTA : Hid (TabAt wA t M D R ∧ Below w.heap.size w wA) := ⟨HE.out.2.1.below bdr, bthen HE.out.1 bdr⟩
          rw [← hwA]
          clear hwA
          refine MixH.takes [true, true, true, false, true] 4 (by kernel_rfl) (by kernel_rfl) (by decide) (by kernel_rfl) hS (fun K hK => ?_)
          simp only [Mix.pick]
          repeat (go_big_quiet_step (fail))
          refine wpQuiet_nil (hK _ ?_)
          clear hK K
          refine MixH.take 3 3 _ (.map (some M)) rfl (by kernel_rfl) (by kernel_rfl) (by kernel_rfl) (by kernel_rfl) (yields_map (.tmp 32) rfl ⟨t, 0, none⟩ (.map (some M)) rfl rfl (fun A hA => hA.1)) hS (fun a' ha => ?_)
          simp only [Act.put, List.setIfInBounds_toArray, List.set_cons_succ, List.set_cons_zero] at ha
          subst ha
          refine MixH.take 2 5 _ (.agg (pfC r.p)) rfl (by kernel_rfl) (by kernel_rfl) (by kernel_rfl) (by kernel_rfl) (yields_pfx (.tmp 34) rfl B 0 r.p rfl rfl (fun A hA => hA.2.pfx)) hS (fun a' ha => ?_)
          simp only [Act.put, List.setIfInBounds_toArray, List.set_cons_succ, List.set_cons_zero] at ha
          subst ha
          refine MixH.take 1 6 _ (.agg (rtC r)) rfl (by kernel_rfl) (by kernel_rfl) (by kernel_rfl) (by kernel_rfl) (yields_rte (.tmp 3) rfl B 0 r rfl rfl (fun A hA => hA.2.all)) hS (fun a' ha => ?_)
          simp only [Act.put, List.setIfInBounds_toArray, List.set_cons_succ, List.set_cons_zero] at ha
          subst ha
          refine MixH.one [false, false, false, false, false, false, false, true] 0 7 _ rfl rfl (by kernel_rfl) (by kernel_rfl) (fun K hK => ?_)
          simp only [Mix.pick]
          refine wpList_mapUpdate_own _ rfl (.tmp 33) (.tmp 35) (.tmp 36) 48 rfl 27 29 lawR Tryd.underlying48 anyE M R.length D rfl HTA.out.1.mo (by unfold maxLen; rw [HN.out]; omega) (.agg (pfC r.p)) (.agg (rtC r)) kl rfl rfl HK.out (.held (.agg (rtC r))) [] rfl ?_
          intro wE hown hgr
          have kE : Ch (fun q => q = M) wA wE := (Ch.ofGrown hgr).mono (fun q _ hq => by simpa using hq.symm)
          have HEND : Hid (TabAt wE t M (D.put kl (.held (.agg (rtC r)))) (R ++ [r]) ∧ Ch (fun q => q = M) w wE) := ⟨HTA.out.1.added r kl HK.out (by have h := HFO.out; cases e : fnd R r.p with | none => rfl | some a => rw [e] at h; cases h) HWF.out hown kE, (KC.out wA HTA.out.2).trans kE (fun _ _ hq => hq)⟩
          replace hS : wE.cell? ⟨t, 0, none⟩ = some (.map (some M)) ∧ RteAt wE B r := ⟨HEND.out.1.c, hS.2.ch kE (by have h1 := HTL.out; have h2 := HB.out; omega)⟩
          clear hown hgr kE
          go_wp2
          refine ⟨rfl, hK _ _ hS ?_⟩
          clear hK K
          refine MixH.done (by kernel_rfl) ?_
          go_wp2
          go_ret
          have e0 : addE R r = 0 := by unfold addE; rw [if_pos HER.out, HFO.out, if_neg (show ¬ false = true by decide), if_neg (by rw [HN.out]; exact h2)]
          refine ⟨D.put kl (.held (.agg (rtC r))), ?_, ?_, HEND.out.2⟩
          · rw [e0]; rfl
          · have e : addR R r = R ++ [r] := by unfold addR; rw [if_pos e0]
            rw [e]; exact HEND.out.1
  · have q0 : ((er : Int) != 0) = true := by simp; omega
    go_wp2
    go_ret
    refine ⟨D, ?_, ?_, KC.out w1 HB1.out⟩
    · unfold addE
      rw [HER.out, if_neg h0]
      rfl
    · have e : addR R r = R := by unfold addR addE; rw [HER.out, if_neg h0, if_neg h0]
      rw [e]; exact HT1.out
set_option maxHeartbeats 3200000 in
set_option maxRecDepth 100000 in
theorem drop_any (t M : Nat) (D : DataW Value) (R : List RV) (p : PV) (w : World) (h : TabAt w t M D R) (hw : p.Wf) :
    Calls Tryd.prog 11 #[.pointer (some ⟨t, 0, none⟩), .agg (pfC p)] w fun e w' => ∃ D', e = .returned (.bool (fnd R p).isSome) ∧ TabAt w' t M D' (del R p) ∧ Ch (fun q => q = M) w w' := by
  have hb := pfx_new w p
  have bel : Below w.heap.size w (w.alloc (.cells (pfC p) 27)) := (Below.refl _ _).alloc (Nat.le_refl _) _
  obtain ⟨C, hC⟩ : ∃ C, C = pfC p := ⟨_, rfl⟩
  obtain ⟨W, hW⟩ : ∃ W, W = w.alloc (.cells (pfC p) 27) := ⟨_, rfl⟩
  rw [← hW] at hb bel
  obtain ⟨B, hB⟩ : ∃ B, B = w.heap.size := ⟨_, rfl⟩
  rw [← hB] at hb
  have HBX : Hid (PfxAt W B p) := hb
  rw [← hC] at hW ⊢
  have HB : Hid (w.heap.size = B) := hB.symm
  have HBL : Hid (Below w.heap.size w W) := bel
  have HW : Hid (w.alloc (.cells C 27) = W) := hW.symm
  have HT : Hid (TabAt W t M D R) := h.below bel
  have HTL : Hid (t < w.heap.size ∧ M < w.heap.size) := h.lt
  obtain ⟨kl, hkl⟩ := kv_key p hw
  have HK : Hid (keyOf Tryd.prog 27 (.agg (pfC p)) = some kl) := hkl
  obtain ⟨fo, hfo⟩ : ∃ fo, fo = (fnd R p).isSome := ⟨_, rfl⟩
  have HFO : Hid ((fnd R p).isSome = fo) := hfo.symm
  have KC : Hid (∀ A, Below w.heap.size w A → Ch (fun q => q = M) w A) := fun A hA => (Ch.ofBelow (S := fun _ => False) hA).mono (fun _ _ hq => hq.elim)
  rw [← hfo]
  clear hb hW hB hC hkl hfo bel hw h
  go_enter Tryd.func11, Tryd.ntmps11
  go_upto_region 1 with fail
  rw [HB.out, HW.out]
  go_cut [6] (fun kn wx => kn = .bool fo ∧ Hid (Below w.heap.size w wx ∧ TabAt wx t M D R ∧ PfxAt wx B p))
  case first =>
    refine MixH.start (fun A => Below w.heap.size w A ∧ TabAt A t M D R ∧ PfxAt A B p) (by kernel_rfl) ?_
    obtain ⟨wA, hwA⟩ : ∃ wA, wA = W.drew := ⟨_, rfl⟩
    have bdr : Below W.heap.size W wA := by rw [hwA]; exact (Below.refl _ _).drew
    have hS : Below w.heap.size w wA ∧ TabAt wA t M D R ∧ PfxAt wA B p := ⟨bthen HBL.out bdr, HT.out.below bdr, HBX.out.below bdr⟩
    rw [← hwA]
    clear hwA
    refine MixH.takes [true, true, true] 9 (by kernel_rfl) (by kernel_rfl) (by decide) (by kernel_rfl) hS (fun K hK => ?_)
    simp only [Mix.pick]
    repeat (go_big_quiet_step (fail))
    refine wpQuiet_nil (hK _ ?_)
    clear hK K
    refine MixH.take 8 3 _ (.map (some M)) rfl (by kernel_rfl) (by kernel_rfl) (by kernel_rfl) (by kernel_rfl) (yields_map (.tmp 10) rfl ⟨t, 0, none⟩ (.map (some M)) rfl rfl (fun A hA => hA.2.1.c)) hS (fun a' ha => ?_)
    simp only [Act.put, List.setIfInBounds_toArray, List.set_cons_succ, List.set_cons_zero] at ha
    subst ha
    refine MixH.take 7 4 _ (.agg (pfC p)) rfl (by kernel_rfl) (by kernel_rfl) (by kernel_rfl) (by kernel_rfl) (yields_pfx (.tmp 3) rfl B 0 p rfl rfl (fun A hA => hA.2.2.all)) hS (fun a' ha => ?_)
    simp only [Act.put, List.setIfInBounds_toArray, List.set_cons_succ, List.set_cons_zero] at ha
    subst ha
    refine MixH.take 6 5 _ (lookV R p) rfl (by kernel_rfl) (by kernel_rfl) (by kernel_rfl) (by kernel_rfl) (yields_lookr (.tmp 11) (.tmp 12) rfl t M D R p kl rfl rfl HK.out rfl (fun A hA => hA.2.1)) hS (fun a' ha => ?_)
    simp only [Act.put, List.setIfInBounds_toArray, List.set_cons_succ, List.set_cons_zero] at ha
    subst ha
    simp only [lookV]
    refine MixH.takes [false, false, false, false, false, false, true, true, true] 3 (by kernel_rfl) (by kernel_rfl) (by decide) (by kernel_rfl) hS (fun K hK => ?_)
    simp only [Mix.pick]
    repeat (go_big_quiet_step (fail))
    refine wpQuiet_nil (hK _ ?_)
    clear hK K
    refine MixH.one [false, false, false, false, false, false, false, false, false, true] 2 9 _ rfl rfl (by kernel_rfl) (by kernel_rfl) (fun K hK => ?_)
    simp only [Mix.pick]
    refine wpList_alloc_rte rfl rfl ?_
    have bq : Below wA.heap.size wA (wA.alloc (.cells (rtC rz) 29)) := (Below.refl _ _).alloc (Nat.le_refl _) _
    have HQ := rte_new wA rz
    replace hS : Below w.heap.size w (wA.alloc (.cells (rtC rz) 29)) ∧ TabAt (wA.alloc (.cells (rtC rz) 29)) t M D R ∧ PfxAt (wA.alloc (.cells (rtC rz) 29)) B p := ⟨bthen hS.1 bq, hS.2.1.below bq, hS.2.2.below bq⟩
    have HQL : w.heap.size ≤ wA.heap.size := Nat.le_trans HBL.out.size bdr.size
    clear bq
    go_wp2
    refine ⟨rfl, hK _ _ hS ?_⟩
    clear hK K
    refine MixH.one [false, false, false, false, false, false, false, false, false, false, true] 1 10 _ rfl rfl (by kernel_rfl) (by kernel_rfl) (fun K hK => ?_)
    simp only [Mix.pick]
    refine wpList_store_rte (.tmp 5) (.tmp 14) rfl rfl wA.heap.size rz ((fnd R p).getD rz) rfl rfl HQ rfl ?_
    intro wE hRE kE
    have hne : ¬ t = wA.heap.size ∧ ¬ M = wA.heap.size ∧ ¬ B = wA.heap.size := by
      have h1 := HTL.out
      have h2 := HB.out
      have h3 := HBX.out.lt
      have h4 := bdr.size
      omega
    replace hS : Below w.heap.size w wE ∧ TabAt wE t M D R ∧ PfxAt wE B p := ⟨hS.1.trans (kE.below (fun q e => by have e' : q = wA.heap.size := e; omega) hS.1.size), hS.2.1.ch kE hne.1 hne.2.1, hS.2.2.ch kE hne.2.2⟩
    have HEND : Hid (Below w.heap.size w wE ∧ TabAt wE t M D R ∧ PfxAt wE B p) := hS
    clear hRE kE hne HQ HQL
    go_wp2
    refine ⟨rfl, hK _ _ hS ?_⟩
    clear hK K
    refine MixH.takes [false, false, false, false, false, false, false, false, false, false, false, true] 0 (by kernel_rfl) (by kernel_rfl) (by decide) (by kernel_rfl) hS (fun K hK => ?_)
    simp only [Mix.pick]
    repeat (go_big_quiet_step (fail))
    refine wpQuiet_nil (hK _ ?_)
    clear hK K
    refine MixH.done (by kernel_rfl) ?_
    go_wp2
    go_meet
    exact ⟨by rw [← HFO.out], HEND⟩
  case rest =>
    obtain ⟨rfl, HE⟩ := hcut
    go_upto_region 2 with fail
    refine MixH.start (fun A => A.cell? ⟨t, 0, none⟩ = some (.map (some M)) ∧ PfxAt A B p) (by kernel_rfl) ?_
    obtain ⟨wA, hwA⟩ : ∃ wA, wA = wc.drew := ⟨_, rfl⟩
    have bdr : Below wc.heap.size wc wA := by rw [hwA]; exact (Below.refl _ _).drew
    have hS : wA.cell? ⟨t, 0, none⟩ = some (.map (some M)) ∧ PfxAt wA B p := ⟨(HE.out.2.1.below bdr).c, HE.out.2.2.below bdr⟩
    have HTA : Hid (TabAt wA t M D R ∧ Below w.heap.size w wA) := ⟨HE.out.2.1.below bdr, bthen HE.out.1 bdr⟩
    rw [← hwA]
    clear hwA
    refine MixH.takes [true, true, true] 3 (by kernel_rfl) (by kernel_rfl) (by decide) (by kernel_rfl) hS (fun K hK => ?_)
    simp only [Mix.pick]
    repeat (go_big_quiet_step (fail))
    refine wpQuiet_nil (hK _ ?_)
    clear hK K
    refine MixH.take 2 3 _ (.map (some M)) rfl (by kernel_rfl) (by kernel_rfl) (by kernel_rfl) (by kernel_rfl) (yields_map (.tmp 18) rfl ⟨t, 0, none⟩ (.map (some M)) rfl rfl (fun A hA => hA.1)) hS (fun a' ha => ?_)
    simp only [Act.put, List.setIfInBounds_toArray, List.set_cons_succ, List.set_cons_zero] at ha
    subst ha
    refine MixH.take 1 4 _ (.agg (pfC p)) rfl (by kernel_rfl) (by kernel_rfl) (by kernel_rfl) (by kernel_rfl) (yields_pfx (.tmp 3) rfl B 0 p rfl rfl (fun A hA => hA.2.all)) hS (fun a' ha => ?_)
    simp only [Act.put, List.setIfInBounds_toArray, List.set_cons_succ, List.set_cons_zero] at ha
    subst ha
    refine MixH.one [false, false, false, false, false, true] 0 5 _ rfl rfl (by kernel_rfl) (by kernel_rfl) (fun K hK => ?_)
    simp only [Mix.pick]
    refine wpList_delete_own _ rfl (.tmp 19) (.tmp 20) 48 27 rfl 29 lawR Tryd.underlying48 anyE M R.length D rfl HTA.out.1.mo (.agg (pfC p)) kl rfl HK.out ?_
    intro wE hown htn
    have kE : Ch (fun q => q = M) wA wE := ch_turned htn
    have HEND : Hid (TabAt wE t M (D.del kl) (del R p) ∧ Ch (fun q => q = M) w wE) := ⟨HTA.out.1.dropped p kl HK.out hown kE, (KC.out wA HTA.out.2).trans kE (fun _ _ hq => hq)⟩
    replace hS : wE.cell? ⟨t, 0, none⟩ = some (.map (some M)) ∧ PfxAt wE B p := ⟨HEND.out.1.c, hS.2.ch kE (by have h1 := HTL.out; have h2 := HB.out; omega)⟩
    clear hown htn kE
    go_wp2
    refine ⟨rfl, hK _ _ hS ?_⟩
    clear hK K
    refine MixH.done (by kernel_rfl) ?_
    go_wp2
    go_ret
    exact ⟨D.del kl, rfl, HEND.out.1, HEND.out.2⟩
end Go.Proofs.YtdjbfhllialinaaDoor
