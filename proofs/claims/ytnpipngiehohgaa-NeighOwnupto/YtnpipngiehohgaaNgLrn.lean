/-
  Layer 15: Learn.
-/
import Derived.Test.YtnpipngiehohgaaNgWt1
namespace Go.Proofs.Ytnpipngiehohgaa
open Go.RowKit Go.Maps

theorem MacAt.all {w : World} {O : Nat} {m : Nat → Nat} (h : MacAt w O m) : w.rangeAt O 0 (macC m).toList := by
  intro j v hj
  rw [Nat.zero_add, h.cell]
  simpa using hj
/-- may what was learnt be? -/
def lB (k : KV) (m : Nat → Nat) (how : Int) : Bool := kB k && mB m && inR how 1 3
/-- what Learn does: the entries behind it, the line that may go, the error -/
def LearnR (c : CF) (E : List EV) (k : KV) (m : Nat → Nat) (how : Int) (E' : List EV) (v : Value) (l : List Int) (er : Int) : Prop :=
  (lB k m how = false ∧ E' = E ∧ v = .slice none 0 0 ∧ l = [] ∧ er = 1) ∨ (lB k m how = true ∧
    ((fE E k = none ∧ how = 2 ∧ (∃ e : EV, e.n = ⟨k, m, 3, 0, 0, []⟩ ∧ AddR c E e er E') ∧ v = .slice none 0 0 ∧ l = []) ∨
      (fE E k = none ∧ how ≠ 2 ∧ E' = E ∧ v = .slice none 0 0 ∧ l = [] ∧ er = 0) ∨
      ∃ e, fE E k = some e ∧
        ((how = 1 ∧ E' = updE E k ⟨{ e.n with m := m, st := 2, ag := 0, tr := 0, ln := [] }, e.P, .slice none 0 0⟩ ∧ v = e.lv ∧ l = e.n.ln ∧ er = 0) ∨
          (how ≠ 1 ∧ same6 e.n.m m = false ∧ E' = updE E k ⟨{ e.n with m := m, st := 3, ag := 0, tr := 0, ln := [] }, e.P, .slice none 0 0⟩ ∧ v = e.lv ∧ l = e.n.ln ∧ er = 0) ∨
          (how ≠ 1 ∧ same6 e.n.m m = true ∧ E' = E ∧ v = .slice none 0 0 ∧ l = [] ∧ er = 0))))
theorem run_buildent3 (m : Nat → Nat) (w : World) : (Instr.build 105 #[(0, .agg (macC m)), (1, .int .i64 3)]).run Try.prog w = .ok (.agg (enC ⟨⟨kz, m, 3, 0, 0, []⟩, 0, .slice none 0 0⟩)) w := by kernel_rfl
theorem wpList_build_ent3 {ops : Array Oper} {rest : List Oper} {o : Oper} {a : Act} {w : World} {Q : Exit → Act → World → Prop} (x : Operand) (ho : o.op = .build 105 #[(0, x), (1, .const (.int .i64 3))]) (m : Nat → Nat) (e : EV) (hx : a.eval x = .agg (macC m)) (he : enC e = enC ⟨⟨kz, m, 3, 0, 0, []⟩, 0, .slice none 0 0⟩) (hw : Region.wanted o (yielded ops a.tmps) = true)
    (h : wpList Try.prog ops Q rest (a.put o.dst (.agg (enC e))) w) : wpList Try.prog ops Q (o :: rest) a w := by
  refine wpList_step fun K hK => ?_
  rw [if_pos hw]
  rw [he] at h
  have hcc : a.eval (.const (.int .i64 3)) = .int .i64 3 := rfl
  have hrun : (execOp a.eval o).run Try.prog w = .ok (.value (.agg (enC ⟨⟨kz, m, 3, 0, 0, []⟩, 0, .slice none 0 0⟩))) w := by
    obtain ⟨dst, op, type, pos, after, guard⟩ := o
    simp only at ho
    subst ho
    simp only [execOp, Sem.run_bind, List.map_toArray, List.map_cons, List.map_nil, hx, hcc, run_buildent3 m w, Result.andThen_ok]
    rfl
  unfold Oper.wp
  rw [hrun]
  exact hK _ _ h
set_option maxHeartbeats 6400000 in
set_option maxRecDepth 100000 in
theorem learn_any (t M : Nat) (c : CF) (E : List EV) (k : KV) (mc : Nat → Nat) (how : Int) (w : World) (h : CA w t M c E) (hl : E.length ≤ 1024) (ha : ∀ e ∈ E, 0 ≤ e.n.ag) (hk : k.Wf) (hm : ∀ i, i < 6 → mc i < 256) :
    Calls Try.prog 16 #[.pointer (some ⟨t, 0, none⟩), .int .i64 k.pt, .agg (ipCells k.V k.x), .agg (macC mc), .int .i64 how] w fun r w' => ∃ v l er E', r = .returned (.tuple #[v, .int .i64 er]) ∧ LearnR c E k mc how E' v l er ∧ CA w' t M c E' ∧ Ch (CB t M E) w w' ∧ LnAt w' v l ∧ ∀ q, CB t M E' q → CB t M E q ∨ w.heap.size ≤ q := by
  have HC : Hid (CA w t M c E ∧ E.length ≤ 1024 ∧ (∀ e ∈ E, 0 ≤ e.n.ag) ∧ k.Wf ∧ ∀ i, i < 6 → mc i < 256) := ⟨h, hl, ha, hk, hm⟩
  clear h hl ha hk hm
  have hi := ipr_new w k.V k.x
  have hmm := mac_new (w.alloc (.cells (ipCells k.V k.x) 31)) mc
  rw [World.size_alloc] at hmm
  obtain ⟨Y, hY⟩ : ∃ Y, Y = (w.alloc (.cells (ipCells k.V k.x) 31)).alloc (.cells (macC mc) 33) := ⟨_, rfl⟩
  have bY : Below w.heap.size w Y := by rw [hY]; exact ((Below.refl _ _).alloc (Nat.le_refl _) _).alloc (by simp) _
  have hi2 : IprAt Y w.heap.size k.V k.x := by rw [hY]; exact hi.below ((Below.refl _ _).alloc (Nat.le_refl _) _)
  rw [← hY] at hmm
  obtain ⟨B, hB⟩ : ∃ B, B = w.heap.size := ⟨_, rfl⟩
  rw [← hB] at hi2 hmm
  obtain ⟨CI, hCI⟩ : ∃ C, C = ipCells k.V k.x := ⟨_, rfl⟩
  obtain ⟨CM, hCM⟩ : ∃ C, C = macC mc := ⟨_, rfl⟩
  rw [← hCI, ← hCM] at hY ⊢
  have HY : Hid (IprAt Y B k.V k.x ∧ MacAt Y (B + 1) mc ∧ Below w.heap.size w Y ∧ CA Y t M c E) := ⟨hi2, hmm, bY, HC.out.1.below bY⟩
  have HW : Hid ((w.alloc (.cells CI 31)).alloc (.cells CM 33) = Y ∧ w.heap.size = B) := ⟨hY.symm, hB.symm⟩
  clear hi hmm hY bY hi2 hB hCI hCM
  go_enter Try.func16, Try.ntmps16
  go_upto_region 1 with fail
  rw [HW.out.1, HW.out.2]
  go_wp2_with (first | (refine wpList_load_ipr (.tmp 7) rfl B k.V k.x rfl HY.out.1 rfl ?_) | (refine wpList_build_key (.tmp 14) (.tmp 15) rfl k.pt k.V k.x rfl rfl rfl ?_) | (refine wpList_alloc_key rfl rfl ?_) | (refine wpList_store_key (.tmp 12) (.tmp 16) rfl rfl Y.heap.size kz k rfl rfl (key_new Y kz) rfl ?_))
  intro w1 hK1 k1
  have bz : Below Y.heap.size Y (Y.alloc (.cells (kC kz) 98)) := (Below.refl _ _).alloc (Nat.le_refl _) _
  have b1 : Below Y.heap.size Y w1 := bz.trans (k1.below (fun q e => by have e' : q = Y.heap.size := e; omega) bz.size)
  obtain ⟨O12, hO12⟩ : ∃ O, O = Y.heap.size := ⟨_, rfl⟩
  rw [← hO12] at hK1 ⊢
  have H1 : Hid (KeyAt w1 O12 k ∧ MacAt w1 (B + 1) mc ∧ Below w.heap.size w w1 ∧ CA w1 t M c E) := ⟨hK1, HY.out.2.1.below b1, bthen HY.out.2.2.1 b1, HY.out.2.2.2.below b1⟩
  clear hK1 k1 bz b1 hO12 HY
  obtain ⟨kb, hkb⟩ : ∃ b, kB k = b := ⟨_, rfl⟩
  obtain ⟨mb, hmb⟩ : ∃ b, mB mc = b := ⟨_, rfl⟩
  obtain ⟨LB, hLB⟩ : ∃ b, lB k mc how = b := ⟨_, rfl⟩
  have HLB : Hid (lB k mc how = LB) := hLB
  have QM : Hid _ := mayBe_any k w1
  rw [hkb] at QM
  have HKB : Hid (kB k = kb ∧ mB mc = mb) := ⟨hkb, hmb⟩
  clear hkb hmb hLB
  go_upto_region 2 with fail
  go_cut [32] (fun v wx => v = .bool (!LB) ∧ Hid (KeyAt wx O12 k ∧ MacAt wx (B + 1) mc ∧ Below w.heap.size w wx ∧ CA wx t M c E))
  case first =>
    go_wp2_with (first | (refine wpList_load_key (.tmp 12) rfl O12 k rfl H1.out.1 rfl ?_))
    refine Calls.mono QM.out ?_
    rintro r w2 ⟨rfl, b2⟩
    have H2 : Hid (KeyAt w2 O12 k ∧ MacAt w2 (B + 1) mc ∧ Below w.heap.size w w2 ∧ CA w2 t M c E) := ⟨H1.out.1.below b2, H1.out.2.1.below b2, bthen H1.out.2.2.1 b2, H1.out.2.2.2.below b2⟩
    clear b2 H1 QM
    cases kb with
    | false =>
      have HL : Hid (LB = false) := by show LB = false; rw [← HLB.out]; unfold lB; rw [HKB.out.1]; rfl
      go_wp2_with fail
      go_meet
      exact ⟨by rw [HL.out]; rfl, H2⟩
    | true =>
      have QA : Hid _ := macMay_any mc w2 HC.out.2.2.2.2
      rw [HKB.out.2] at QA
      go_wp2_with (first | (refine wpList_load_mac (.tmp 8) rfl (B + 1) mc rfl H2.out.2.1 rfl ?_))
      refine Calls.mono QA.out ?_
      rintro r w3 ⟨rfl, b3⟩
      have H3 : Hid (KeyAt w3 O12 k ∧ MacAt w3 (B + 1) mc ∧ Below w.heap.size w w3 ∧ CA w3 t M c E) := ⟨H2.out.1.below b3, H2.out.2.1.below b3, bthen H2.out.2.2.1 b3, H2.out.2.2.2.below b3⟩
      clear b3 H2 QA
      cases mb with
      | false =>
        have HL : Hid (LB = false) := by show LB = false; rw [← HLB.out]; unfold lB; rw [HKB.out.1, HKB.out.2]; rfl
        go_wp2_with fail
        go_meet
        exact ⟨by rw [HL.out]; rfl, H3⟩
      | true =>
        by_cases h1 : how < 1
        · have q1 : decide (how < 1) = true := by simpa using h1
          have HL : Hid (LB = false) := by show LB = false; rw [← HLB.out]; unfold lB inR; rw [show decide (1 ≤ how) = false by simp; omega]; simp
          clear h1
          go_wp2_with fail
          go_meet
          exact ⟨by rw [HL.out]; rfl, H3⟩
        · have q1 : decide (how < 1) = false := by simpa using h1
          by_cases h2 : how > 3
          · have q2 : decide (how > 3) = true := by simpa using h2
            have HL : Hid (LB = false) := by show LB = false; rw [← HLB.out]; unfold lB inR; rw [show decide (how ≤ 3) = false by simp; omega]; simp
            clear h1 h2
            go_wp2_with fail
            go_meet
            exact ⟨by rw [HL.out]; rfl, H3⟩
          · have q2 : decide (how > 3) = false := by simpa using h2
            have HL : Hid (LB = true) := by show LB = true; rw [← HLB.out]; unfold lB inR; rw [HKB.out.1, HKB.out.2, show decide (1 ≤ how) = true by simp; omega, show decide (how ≤ 3) = true by simp; omega]; rfl
            clear h1 h2
            go_wp2_with fail
            go_meet
            exact ⟨by rw [HL.out]; rfl, H3⟩
  case rest =>
    obtain ⟨rfl, H2⟩ := hcut
    clear H1 QM HKB
    cases LB with
    | false =>
      simp only [Bool.not_false]
      go_wp2_with fail
      go_ret2
      exact ⟨.slice none 0 0, [], 1, E, rfl, .inl ⟨HLB.out, rfl, rfl, rfl, rfl⟩, H2.out.2.2.2, Ch.ofBelow H2.out.2.2.1, World.ownsRow_nil _ _ _ _, fun q hq => .inl hq⟩
    | true =>
      simp only [Bool.not_true]
      obtain ⟨pv, hpv⟩ : ∃ pv, ptE (fE E k) = pv := ⟨_, rfl⟩
      have HPV : Hid (ptE (fE E k) = pv) := hpv
      clear hpv
      go_upto_region 4 with fail
      obtain ⟨w2, hw2⟩ : ∃ w2, w2 = wc := ⟨_, rfl⟩
      rw [← hw2] at H2 ⊢
      clear hw2
      go_cut [13] (fun v wx => v = pv ∧ Hid (KeyAt wx O12 k ∧ MacAt wx (B + 1) mc ∧ Below w.heap.size w wx ∧ CA wx t M c E))
      case first =>
        refine MixH.start (fun A => KeyAt A O12 k ∧ CA A t M c E) (by kernel_rfl) ?_
        obtain ⟨wA, hwA⟩ : ∃ wA, wA = w2.drew := ⟨_, rfl⟩
        have bdr : Below w2.heap.size w2 wA := by rw [hwA]; exact (Below.refl _ _).drew
        have hS : KeyAt wA O12 k ∧ CA wA t M c E := ⟨H2.out.1.below bdr, H2.out.2.2.2.below bdr⟩
        have HE : Hid (KeyAt wA O12 k ∧ MacAt wA (B + 1) mc ∧ Below w.heap.size w wA ∧ CA wA t M c E) := ⟨hS.1, H2.out.2.1.below bdr, bthen H2.out.2.2.1 bdr, hS.2⟩
        rw [← hwA]
        clear hwA bdr
        refine MixH.takes [true, true, true] 4 (by kernel_rfl) (by kernel_rfl) (by decide) (by kernel_rfl) hS (fun K hK => ?_)
        simp only [Mix.pick]
        repeat (go_big_quiet_step (fail))
        refine wpQuiet_nil (hK _ ?_)
        clear hK K
        refine MixH.take 3 3 _ (.map (some M)) rfl (by kernel_rfl) (by kernel_rfl) (by kernel_rfl) (by kernel_rfl) (yields_map (.tmp 35) rfl ⟨t, 5, none⟩ (.map (some M)) rfl rfl (fun A hA => hA.2.cb.mp)) hS (fun a' ha => ?_)
        simp only [Act.put, List.setIfInBounds_toArray, List.set_cons_succ, List.set_cons_zero] at ha
        subst ha
        refine MixH.take 2 4 _ (.agg (kC k)) rfl (by kernel_rfl) (by kernel_rfl) (by kernel_rfl) (by kernel_rfl) (yields_key (.tmp 12) rfl O12 0 k rfl rfl (fun A hA => hA.1.all)) hS (fun a' ha => ?_)
        simp only [Act.put, List.setIfInBounds_toArray, List.set_cons_succ, List.set_cons_zero] at ha
        subst ha
        refine MixH.take 1 5 _ (pv) rfl (by kernel_rfl) (by kernel_rfl) (by kernel_rfl) (by kernel_rfl) (yields_look (.tmp 36) (.tmp 37) rfl t M c E k HC.out.2.2.2.1 rfl rfl pv HPV.out rfl (fun A hA => hA.2)) hS (fun a' ha => ?_)
        simp only [Act.put, List.setIfInBounds_toArray, List.set_cons_succ, List.set_cons_zero] at ha
        subst ha
        refine MixH.takes [false, false, false, false, false, false, true] 0 (by kernel_rfl) (by kernel_rfl) (by decide) (by kernel_rfl) hS (fun K hK => ?_)
        simp only [Mix.pick]
        repeat (go_big_quiet_step (fail))
        refine wpQuiet_nil (hK _ ?_)
        clear hK K
        refine MixH.done (by kernel_rfl) ?_
        clear hS
        go_wp2
        go_meet
        exact ⟨rfl, HE⟩
      case rest =>
        obtain ⟨rfl, HE⟩ := hcut
        clear H2
        cases hf : fE E k with
        | none =>
          rw [hf] at HPV
          have HFN : Hid (fE E k = none) := hf
          clear hf
          have hv := HPV.out
          simp only [ptE] at hv
          subst hv
          by_cases h2 : how = 2
          · have q2 : (how == 2) = true := by simpa using h2
            have HH : Hid (how = 2) := h2
            obtain ⟨e, he⟩ : ∃ e : EV, e = ⟨⟨k, mc, 3, 0, 0, []⟩, wc.heap.size, .slice none 0 0⟩ := ⟨_, rfl⟩
            obtain ⟨Z, hZ⟩ : ∃ Z, Z = wc.alloc (.cells (enC e) 105) := ⟨_, rfl⟩
            have bZ : Below wc.heap.size wc Z := by rw [hZ]; exact (Below.refl _ _).alloc (Nat.le_refl _) _
            have HEE : Hid (e.n = ⟨k, mc, 3, 0, 0, []⟩ ∧ e.P = wc.heap.size ∧ e.lv = .slice none 0 0 ∧ enC e = enC ⟨⟨kz, mc, 3, 0, 0, []⟩, 0, .slice none 0 0⟩) := by rw [he]; exact ⟨rfl, rfl, rfl, rfl⟩
            have HZ : Hid (wc.alloc (.cells (enC e) 105) = Z ∧ CA Z t M c E ∧ Below w.heap.size w Z ∧ EntAt Z e ∧ LnAt Z e.lv e.n.ln) := by
              refine ⟨hZ.symm, HE.out.2.2.2.below bZ, bthen HE.out.2.2.1 bZ, ?_, ?_⟩
              · unfold EntAt
                rw [hZ, HEE.out.2.1]
                exact heap_alloc_new _ _
              · rw [HEE.out.2.2.1, HEE.out.1]
                exact World.ownsRow_nil _ _ _ _
            have HKN : Hid (e.n.k = k) := by show e.n.k = k; rw [HEE.out.1]
            have QA : Hid _ := add_any t M c E e Z HZ.out.2.1 HC.out.2.1 HC.out.2.2.1 (by rw [HKN.out]; exact HC.out.2.2.2.1) (by rw [HKN.out]; exact HFN.out) HZ.out.2.2.2.1 HZ.out.2.2.2.2 (fun a haE q => by have h1 := HE.out.2.2.2.tlt a.P (.inr (.inr ⟨a, haE, .inl rfl⟩)); have h2 := HEE.out.2.1; omega) (fun a haE g hg q => by
              rw [HEE.out.2.2.1] at q
              cases q)
            rw [HKN.out, HEE.out.2.1] at QA
            clear he hZ bZ h2
            go_wp2_with (first | (refine wpList_load_key (.tmp 12) rfl O12 k rfl HE.out.1 rfl ?_) | (refine wpList_load_mac (.tmp 8) rfl (B + 1) mc rfl HE.out.2.1 rfl ?_) | (refine wpList_build_ent3 (.tmp 48) rfl mc e rfl HEE.out.2.2.2 rfl ?_))
            rw [HZ.out.1]
            refine Calls.mono QA.out ?_
            rintro r w5 ⟨er, E', rfl, hadd, hCA, hch⟩
            have H5 : Hid (AddR c E e er E' ∧ CA w5 t M c E' ∧ Ch (CB t M E) w w5 ∧ ∀ q, CB t M E' q → CB t M E q ∨ w.heap.size ≤ q) := ⟨hadd, hCA, (Ch.ofBelow HZ.out.2.2.1).trans hch (fun q _ hq => .inr (.inl hq)), hadd.blocks (by have := HEE.out.2.1; have := HE.out.2.2.1.size; omega) (fun g hg => by rw [HEE.out.2.2.1] at hg; cases hg)⟩
            clear hadd hCA hch QA
            go_wp2_with fail
            go_ret2
            exact ⟨.slice none 0 0, [], er, E', rfl, .inr ⟨HLB.out, .inl ⟨HFN.out, HH.out, ⟨e, HEE.out.1, H5.out.1⟩, rfl, rfl⟩⟩, H5.out.2.1, H5.out.2.2.1, World.ownsRow_nil _ _ _ _, H5.out.2.2.2⟩
          · have q2 : (how == 2) = false := by simpa using h2
            have HH : Hid (how ≠ 2) := h2
            clear h2
            go_wp2_with fail
            go_ret2
            exact ⟨.slice none 0 0, [], 0, E, rfl, .inr ⟨HLB.out, .inr (.inl ⟨HFN.out, HH.out, rfl, rfl, rfl, rfl⟩)⟩, HE.out.2.2.2, Ch.ofBelow HE.out.2.2.1, World.ownsRow_nil _ _ _ _, fun q hq => .inl hq⟩
        | some e =>
          rw [hf] at HPV
          have HFS : Hid (fE E k = some e ∧ e ∈ E) := ⟨hf, (fE_some hf).1⟩
          clear hf
          have hv := HPV.out
          simp only [ptE] at hv
          subst hv
          by_cases h1 : how = 1
          · have q1 : (how == 1) = true := by simpa using h1
            have HH : Hid (how = 1) := h1
            have QK : Hid _ := know_any e mc 2 wc (HE.out.2.2.2.en e HFS.out.2)
            clear h1
            go_wp2_with (first | (refine wpList_load_mac (.tmp 8) rfl (B + 1) mc rfl HE.out.2.1 rfl ?_))
            refine Calls.mono QK.out ?_
            rintro r w3 ⟨rfl, hE3, k3⟩
            have k3' : Ch (fun q => q = e.P ∨ e.lv.ownBlock = some q) wc w3 := k3.mono (fun _ _ h => .inl h)
            have hnt := (HE.out.2.2.2.nt.2.1 e HFS.out.2).2.2 e HFS.out.2
            have H9 : Hid (CA w3 t M c (updE E k ⟨{ e.n with m := mc, st := 2, ag := 0, tr := 0, ln := [] }, e.P, .slice none 0 0⟩) ∧ Ch (CB t M E) w w3 ∧ LnAt w3 e.lv e.n.ln ∧ (∀ q, CB t M (updE E k ⟨{ e.n with m := mc, st := 2, ag := 0, tr := 0, ln := [] }, e.P, .slice none 0 0⟩) q → CB t M E q ∨ w.heap.size ≤ q)) := ⟨HE.out.2.2.2.turned HFS.out.1 rfl rfl k3' hE3 (World.ownsRow_nil _ _ _ _) (fun g hg => by cases hg), (Ch.ofBelow HE.out.2.2.1).trans k3 (fun q _ hq => .inr (.inr ⟨e, HFS.out.2, .inl hq⟩)), k3.owns (HE.out.2.2.2.li e HFS.out.2) (fun g hg q => hnt (by have q' : g = e.P := q; rw [hg, q'])), fun q hq => (CB.turned (A := wc) (e' := ⟨{ e.n with m := mc, st := 2, ag := 0, tr := 0, ln := [] }, e.P, .slice none 0 0⟩) HFS.out.1 rfl (fun g hg => by cases hg) q hq).imp id (fun h => by have := HE.out.2.2.1.size; omega)⟩
            obtain ⟨lv, hlv⟩ : ∃ lv, e.lv = lv := ⟨_, rfl⟩
            rw [hlv]
            have HLV : Hid (e.lv = lv) := hlv
            clear hE3 k3 k3' hnt QK hlv
            go_wp2_with fail
            go_ret2
            exact ⟨lv, e.n.ln, 0, _, rfl, .inr ⟨HLB.out, .inr (.inr ⟨e, HFS.out.1, .inl ⟨HH.out, rfl, HLV.out.symm, rfl, rfl⟩⟩)⟩, H9.out.1, H9.out.2.1, by rw [← HLV.out]; exact H9.out.2.2.1, H9.out.2.2.2⟩
          · have q1 : (how == 1) = false := by simpa using h1
            have HH : Hid (how ≠ 1) := h1
            clear h1
            obtain ⟨nb, hnb⟩ : ∃ nb, (!same6 e.n.m mc) = nb := ⟨_, rfl⟩
            have HNB : Hid ((!same6 e.n.m mc) = nb) := hnb
            clear hnb
            obtain ⟨w2, hw2⟩ : ∃ w2, w2 = wc := ⟨_, rfl⟩
            rw [← hw2] at HE ⊢
            clear hw2
            go_upto_region 11 with fail
            go_cut [61] (fun v wx => v = .bool nb ∧ Hid (KeyAt wx O12 k ∧ MacAt wx (B + 1) mc ∧ Below w.heap.size w wx ∧ CA wx t M c E))
            case first =>
              refine MixH.start (fun A => EntAt A e ∧ MacAt A (B + 1) mc) (by kernel_rfl) ?_
              obtain ⟨wA, hwA⟩ : ∃ wA, wA = w2.drew := ⟨_, rfl⟩
              have bdr : Below w2.heap.size w2 wA := by rw [hwA]; exact (Below.refl _ _).drew
              have HF : Hid (KeyAt wA O12 k ∧ MacAt wA (B + 1) mc ∧ Below w.heap.size w wA ∧ CA wA t M c E) := ⟨HE.out.1.below bdr, HE.out.2.1.below bdr, bthen HE.out.2.2.1 bdr, HE.out.2.2.2.below bdr⟩
              have hS : EntAt wA e ∧ MacAt wA (B + 1) mc := ⟨HF.out.2.2.2.en e HFS.out.2, HF.out.2.1⟩
              rw [← hwA]
              clear hwA bdr
              refine MixH.takes [true, true, true] 4 (by kernel_rfl) (by kernel_rfl) (by decide) (by kernel_rfl) hS (fun K hK => ?_)
              simp only [Mix.pick]
              repeat (go_big_quiet_step (fail))
              refine wpQuiet_nil (hK _ ?_)
              clear hK K
              refine MixH.take 3 3 _ (.agg (macC e.n.m)) rfl (by kernel_rfl) (by kernel_rfl) (by kernel_rfl) (by kernel_rfl) (yields_mac (.tmp 64) rfl e.P 0 e.n.m rfl rfl (fun A hA => EntAt.mac hA.1)) hS (fun a' ha => ?_)
              simp only [Act.put, List.setIfInBounds_toArray, List.set_cons_succ, List.set_cons_zero] at ha
              subst ha
              refine MixH.take 2 4 _ (.agg (macC mc)) rfl (by kernel_rfl) (by kernel_rfl) (by kernel_rfl) (by kernel_rfl) (yields_mac (.tmp 8) rfl (B + 1) 0 mc rfl rfl (fun A hA => hA.2.all)) hS (fun a' ha => ?_)
              simp only [Act.put, List.setIfInBounds_toArray, List.set_cons_succ, List.set_cons_zero] at ha
              subst ha
              refine MixH.one [false, false, false, false, false, true] 1 5 _ rfl rfl (by kernel_rfl) (by kernel_rfl) (fun K hK => ?_)
              simp only [Mix.pick]
              refine wpList_neq_mac (.tmp 65) (.tmp 66) rfl e.n.m mc rfl rfl nb HNB.out rfl ?_
              go_wp2_with fail
              refine ⟨rfl, hK _ _ hS ?_⟩
              clear hK K
              refine MixH.takes [false, false, false, false, false, false, true] 0 (by kernel_rfl) (by kernel_rfl) (by decide) (by kernel_rfl) hS (fun K hK => ?_)
              simp only [Mix.pick]
              repeat (go_big_quiet_step (fail))
              refine wpQuiet_nil (hK _ ?_)
              clear hK K
              refine MixH.done (by kernel_rfl) ?_
              clear hS
              go_wp2
              go_meet
              exact ⟨rfl, HF⟩
            case rest =>
              obtain ⟨rfl, HF⟩ := hcut
              clear HE
              have HE : Hid (KeyAt wc O12 k ∧ MacAt wc (B + 1) mc ∧ Below w.heap.size w wc ∧ CA wc t M c E) := HF.out
              clear HF
              cases nb with
              | true =>
                have HS6 : Hid (same6 e.n.m mc = false) := by have := HNB.out; show same6 e.n.m mc = false; simpa using this
                have QK : Hid _ := know_any e mc 3 wc (HE.out.2.2.2.en e HFS.out.2)
                go_wp2_with (first | (refine wpList_load_mac (.tmp 8) rfl (B + 1) mc rfl HE.out.2.1 rfl ?_))
                refine Calls.mono QK.out ?_
                rintro r w3 ⟨rfl, hE3, k3⟩
                have k3' : Ch (fun q => q = e.P ∨ e.lv.ownBlock = some q) wc w3 := k3.mono (fun _ _ h => .inl h)
                have hnt := (HE.out.2.2.2.nt.2.1 e HFS.out.2).2.2 e HFS.out.2
                have H9 : Hid (CA w3 t M c (updE E k ⟨{ e.n with m := mc, st := 3, ag := 0, tr := 0, ln := [] }, e.P, .slice none 0 0⟩) ∧ Ch (CB t M E) w w3 ∧ LnAt w3 e.lv e.n.ln ∧ (∀ q, CB t M (updE E k ⟨{ e.n with m := mc, st := 3, ag := 0, tr := 0, ln := [] }, e.P, .slice none 0 0⟩) q → CB t M E q ∨ w.heap.size ≤ q)) := ⟨HE.out.2.2.2.turned HFS.out.1 rfl rfl k3' hE3 (World.ownsRow_nil _ _ _ _) (fun g hg => by cases hg), (Ch.ofBelow HE.out.2.2.1).trans k3 (fun q _ hq => .inr (.inr ⟨e, HFS.out.2, .inl hq⟩)), k3.owns (HE.out.2.2.2.li e HFS.out.2) (fun g hg q => hnt (by have q' : g = e.P := q; rw [hg, q'])), fun q hq => (CB.turned (A := wc) (e' := ⟨{ e.n with m := mc, st := 3, ag := 0, tr := 0, ln := [] }, e.P, .slice none 0 0⟩) HFS.out.1 rfl (fun g hg => by cases hg) q hq).imp id (fun h => by have := HE.out.2.2.1.size; omega)⟩
                obtain ⟨lv, hlv⟩ : ∃ lv, e.lv = lv := ⟨_, rfl⟩
                rw [hlv]
                have HLV : Hid (e.lv = lv) := hlv
                clear hE3 k3 k3' hnt QK hlv
                go_wp2_with fail
                go_ret2
                exact ⟨lv, e.n.ln, 0, _, rfl, .inr ⟨HLB.out, .inr (.inr ⟨e, HFS.out.1, .inr (.inl ⟨HH.out, HS6.out, rfl, HLV.out.symm, rfl, rfl⟩)⟩)⟩, H9.out.1, H9.out.2.1, by rw [← HLV.out]; exact H9.out.2.2.1, H9.out.2.2.2⟩
              | false =>
                have HS6 : Hid (same6 e.n.m mc = true) := by have := HNB.out; show same6 e.n.m mc = true; simpa using this
                go_wp2_with fail
                go_ret2
                exact ⟨.slice none 0 0, [], 0, E, rfl, .inr ⟨HLB.out, .inr (.inr ⟨e, HFS.out.1, .inr (.inr ⟨HH.out, HS6.out, rfl, rfl, rfl, rfl⟩)⟩)⟩, HE.out.2.2.2, Ch.ofBelow HE.out.2.2.1, World.ownsRow_nil _ _ _ _, fun q hq => .inl hq⟩
end Go.Proofs.Ytnpipngiehohgaa
