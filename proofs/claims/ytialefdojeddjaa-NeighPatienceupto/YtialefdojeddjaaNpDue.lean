/-
  Layer 15: weirlaw15.due.
-/
import Derived.Test.YtialefdojeddjaaNpKa
import Derived.Deep.CutBlock
namespace Go.Proofs.Ytialefdojeddjaa
open Go.RowKit Go.Maps

set_option maxHeartbeats 12800000 in
set_option maxRecDepth 100000 in
theorem due_any {W : World} {t M : Nat} {d : CF} {E : List EV} {w : World} (h : LSt W t M d E w) (base n : Nat) (la : Option Addr) (lc : Nat) (L : List BV) (hL : BL w base (.slice la n lc) L) (hb : W.heap.size ≤ base) (hn : L.length = n) (hln : n ≤ 1048576) (ab : Nat) (av : Value) (A : List AK) (hA : AL w ab av A) (hAl : A.length ≤ 100000) (now : Int) (hnow : 0 ≤ now ∧ now ≤ 2000000)
    (hD : ∀ b ∈ L, DOk d E now b ∧ b.k.Wf) (hS : A.length = (L.filter (dA d E now)).length ∧ ∀ (j : Nat) (a : AK) (b : BV), A[j]? = some a → (L.filter (dA d E now))[j]? = some b → eqP a.k b.k = true ∧ a.ty = b.ct + 1) :
    Calls Try.prog 27 #[.pointer (some ⟨t, 0, none⟩), .agg (cfC d), .slice la n lc, av, .int .i64 now] w fun r w' => r = .returned (.bool true) ∧ LSt W t M d E w' ∧ BL w' base (.slice la n lc) (L.map (dB d E now)) ∧ Ch (fun q => (Value.slice la n lc).ownBlock = some q) w w' := by
  obtain ⟨aa, ac, rfl⟩ := hA.form
  obtain ⟨an, han⟩ : ∃ an, an = A.length := ⟨_, rfl⟩
  rw [← han] at hA ⊢
  have HAN : Hid (an = A.length ∧ an ≤ 100000) := ⟨han, by omega⟩
  clear han hAl
  have hbx := cfg_new w d
  have bel : Below w.heap.size w (w.alloc (.cells (cfC d) 23)) := (Below.refl _ _).alloc (Nat.le_refl _) _
  obtain ⟨CX, hC⟩ : ∃ C, C = cfC d := ⟨_, rfl⟩
  obtain ⟨Y, hY⟩ : ∃ W, W = w.alloc (.cells (cfC d) 23) := ⟨_, rfl⟩
  rw [← hY] at hbx bel
  obtain ⟨B, hB⟩ : ∃ B, B = w.heap.size := ⟨_, rfl⟩
  rw [← hB] at hbx
  obtain ⟨f, hf⟩ : ∃ f, f = dB d E now := ⟨_, rfl⟩
  obtain ⟨v, hv⟩ : ∃ v, v = Value.slice la n lc := ⟨_, rfl⟩
  obtain ⟨av, hav⟩ : ∃ av, av = Value.slice aa an ac := ⟨_, rfl⟩
  have HX0 : Hid (DU W t M d E w B base v (upto f L 0) ab av A Y) := ⟨hbx, h.below bel, by rw [hv]; exact hL.below bel, by rw [hav]; exact hA.below bel, Ch.ofBelow bel⟩
  have HV : Hid (v = .slice la n lc ∧ av = .slice aa an ac) := ⟨hv, hav⟩
  have HF : Hid (f = dB d E now) := hf
  rw [← hC] at hY ⊢
  have HOX : Hid (w.heap.size = B ∧ w.alloc (.cells CX 23) = Y) := ⟨hB.symm, hY.symm⟩
  have HN : Hid (L.length = n ∧ n ≤ 1048576 ∧ W.heap.size ≤ base ∧ 0 ≤ now ∧ now ≤ 2000000) := ⟨hn, hln, hb, hnow.1, hnow.2⟩
  have HD : Hid (∀ b ∈ L, DOk d E now b ∧ b.k.Wf) := hD
  have HSI : Hid (A.length = (L.filter (dA d E now)).length ∧ ∀ (j : Nat) (a : AK) (b : BV), A[j]? = some a → (L.filter (dA d E now))[j]? = some b → eqP a.k b.k = true ∧ a.ty = b.ct + 1) := hS
  have HEV : Hid (0 ≤ d.ev ∧ d.ev ≤ 1048576) := by have := h.cf.ev; exact ⟨by omega, by omega⟩
  rw [← hf]
  clear hf hv hav hbx bel hC hY hB h hL hb hn hln hA hnow hD hS
  go_enter Try.func27, Try.ntmps27
  go_upto_region 1 with fail
  rw [HOX.out.1, HOX.out.2]
  go_wp2_with fail
  go_loopw [11, 12] (fun nx ix wr => ∃ (i m : Nat), nx = .int .i64 (m : Int) ∧ ix = .int .i64 (i : Int) ∧ i ≤ n ∧ Hid (m = ((L.take i).filter (dA d E now)).length) ∧ Hid (DU W t M d E w B base v (upto f L i) ab av A wr)) (fun _ ix _ => n - (intOf ix).toNat)
  case atStart => exact ⟨0, 0, rfl, rfl, by omega, rfl, HX0⟩
  case round =>
    obtain ⟨i, m, rfl, rfl, hi, HM, HX⟩ := hrel
    clear HX0
    by_cases hlt : i < n
    · have k0 : (0 : Int) ≤ (i : Int) := by omega
      have k1 : (i : Int) < (n : Int) := by omega
      have k2 : ((i : Int)).toNat = i := by omega
      have wi : IntKind.i64.wrap ((i : Int) + 1) = (i : Int) + 1 := by have := HN.out.2.1; rw [IntKind.wrap_i64]; omega
      obtain ⟨b, hbi⟩ : ∃ b, L[i]? = some b := ⟨_, List.getElem?_eq_getElem (by rw [HN.out.1]; exact hlt)⟩
      have hLI := upto_at f hbi
      obtain ⟨g, cap, hvs, _, _, _⟩ := HX.out.b.at i b hLI
      rw [upto_len, HN.out.1] at hvs
      have hvv := HV.out.1
      rw [hvv] at hvs
      simp only [Value.slice.injEq] at hvs
      obtain ⟨rfl, _, rfl⟩ := hvs
      have HRB : Hid (∀ X, DU W t M d E w B base v (upto f L i) ab av A X → X.rangeAt g (i * 21) (bvC b).toList) := fun X hX => by
        obtain ⟨g', cap', hv', _, _, hr⟩ := hX.b.at i b hLI
        rw [hvv] at hv'
        simp only [Value.slice.injEq, Option.some.injEq, Addr.mk.injEq, and_true] at hv'
        obtain ⟨⟨rfl, _⟩, _⟩ := hv'
        exact hr
      have HLT : Hid (i < n) := hlt
      have HBI : Hid (L[i]? = some b ∧ b ∈ L) := ⟨hbi, List.mem_of_getElem? hbi⟩
      have HWB : Hid (b.k.Wf) := (HD.out b HBI.out.2).2
      have HDO : Hid (DOk d E now b) := (HD.out b HBI.out.2).1
      obtain ⟨is, his⟩ : ∃ is, is = akB E b.k := ⟨_, rfl⟩
      have HIS : Hid (akB E b.k = is) := his.symm
      have HTK : Hid (L.take (i + 1) = L.take i ++ [b]) := by show _ = _; rw [List.take_add_one, hbi]; rfl
      clear hbi hLI hvv hi his
      go_upto_block 1 with fail
      go_cut [11] (fun nx wx => ∃ m2 : Nat, nx = .int .i64 (m2 : Int) ∧ Hid (m2 = ((L.take (i + 1)).filter (dA d E now)).length ∧ DU W t M d E w B base v (upto f L (i + 1)) ab av A wx))
      case first =>
        go_upto_region 5 with fail
        refine MixH.start (fun A => A.rangeAt g (i * 21) (bvC b).toList ∧ CfgAt A B d) (by kernel_rfl) ?_
        obtain ⟨wA, hwA⟩ : ∃ wA, wA = wr.drew := ⟨_, rfl⟩
        have bdr : Below wr.heap.size wr wA := by rw [hwA]; exact (Below.refl _ _).drew
        have HA : Hid (DU W t M d E w B base v (upto f L i) ab av A wA) := HX.out.below bdr
        have hS : wA.rangeAt g (i * 21) (bvC b).toList ∧ CfgAt wA B d := ⟨HRB.out wA HA.out, HA.out.c⟩
        rw [← hwA]
        clear hwA bdr HX
        refine MixH.takes [true, true, true] 10 (by kernel_rfl) (by kernel_rfl) (by decide) (by kernel_rfl) hS (fun K hK => ?_)
        simp only [Mix.pick]
        repeat (go_big_quiet_step (fail))
        refine wpQuiet_nil (hK _ ?_)
        clear hK K
        refine MixH.takes [false, false, false, true] 9 (by kernel_rfl) (by kernel_rfl) (by decide) (by kernel_rfl) hS (fun K hK => ?_)
        simp only [Mix.pick]
        repeat (go_big_quiet_step (fail))
        refine wpQuiet_nil (hK _ ?_)
        clear hK K
        refine MixH.takes [false, false, false, false, true] 8 (by kernel_rfl) (by kernel_rfl) (by decide) (by kernel_rfl) hS (fun K hK => ?_)
        simp only [Mix.pick]
        repeat (go_big_quiet_step (fail))
        refine wpQuiet_nil (hK _ ?_)
        clear hK K
        refine MixH.take 7 5 _ (.int .i64 b.k.pt) rfl (by kernel_rfl) (by kernel_rfl) (by kernel_rfl) (by kernel_rfl) (yields_int (.tmp 25) rfl ⟨g, i * 21, none⟩ (.int .i64 b.k.pt) rfl rfl (fun A hA => hA.1 0 _ rfl)) hS (fun a' ha => ?_)
        simp only [Act.put, List.setIfInBounds_toArray, List.set_cons_succ, List.set_cons_zero] at ha
        subst ha
        refine MixH.takes [false, false, false, false, false, false, true, true] 5 (by kernel_rfl) (by kernel_rfl) (by decide) (by kernel_rfl) hS (fun K hK => ?_)
        simp only [Mix.pick]
        repeat (go_big_quiet_step (fail))
        refine wpQuiet_nil (hK _ ?_)
        clear hK K
        refine MixH.takes [false, false, false, false, false, false, false, false, true] 4 (by kernel_rfl) (by kernel_rfl) (by decide) (by kernel_rfl) hS (fun K hK => ?_)
        simp only [Mix.pick]
        repeat (go_big_quiet_step (fail))
        refine wpQuiet_nil (hK _ ?_)
        clear hK K
        refine MixH.takes [false, false, false, false, false, false, false, false, false, true] 3 (by kernel_rfl) (by kernel_rfl) (by decide) (by kernel_rfl) hS (fun K hK => ?_)
        simp only [Mix.pick]
        repeat (go_big_quiet_step (fail))
        refine wpQuiet_nil (hK _ ?_)
        clear hK K
        refine MixH.take 2 10 _ (.agg (ipCells b.k.V b.k.x)) rfl (by kernel_rfl) (by kernel_rfl) (by kernel_rfl) (by kernel_rfl) (yields_ipr (.tmp 30) rfl g (i * 21 + 1) b.k.V b.k.x rfl rfl (fun A hA => bv_ip hA.1)) hS (fun a' ha => ?_)
        simp only [Act.put, List.setIfInBounds_toArray, List.set_cons_succ, List.set_cons_zero] at ha
        subst ha
        refine MixH.one [false, false, false, false, false, false, false, false, false, false, false, true] 1 11 _ rfl rfl (by kernel_rfl) (by kernel_rfl) (fun K hK => ?_)
        simp only [Mix.pick]
        have QA : Hid _ := asking_any HA.out.l b.k HWB.out
        rw [HIS.out] at QA
        go_wp2_with fail
        refine Calls.mono QA.out ?_
        rintro r wB ⟨rfl, hlB, bB⟩
        have HB : Hid (DU W t M d E w B base v (upto f L i) ab av A wB) := HA.out.below bB
        replace hS : wB.rangeAt g (i * 21) (bvC b).toList ∧ CfgAt wB B d := ⟨HRB.out wB HB.out, HB.out.c⟩
        clear hlB bB HA QA
        go_wp2
        refine ⟨rfl, hK _ _ hS ?_⟩
        clear hK K
        refine MixH.takes [false, false, false, false, false, false, false, false, false, false, false, false, true] 0 (by kernel_rfl) (by kernel_rfl) (by decide) (by kernel_rfl) hS (fun K hK => ?_)
        simp only [Mix.pick]
        repeat (go_big_quiet_step (fail))
        refine wpQuiet_nil (hK _ ?_)
        clear hK K
        refine MixH.done (by kernel_rfl) ?_
        clear hS
        have c20 : wB.cell? ⟨g, i * 21 + 20, none⟩ = some (.int .i64 b.ct) := HRB.out wB HB.out 20 _ rfl
        by_cases hz : b.ct = 0
        · have q0 : (b.ct == 0) = true := by simpa using hz
          have HME : Hid (m = ((L.take (i + 1)).filter (dA d E now)).length ∧ DU W t M d E w B base v (upto f L (i + 1)) ab av A wB) := by
            have e1 : dA d E now b = false := by unfold dA; rw [hz]; rfl
            have e2 : f b = b := by rw [HF.out]; unfold dB; rw [if_pos hz]
            refine ⟨by rw [HTK.out, List.filter_append, List.filter_cons, if_neg (by rw [e1]; decide), List.filter_nil, List.append_nil]; exact HM.out, ?_⟩
            have h9 := upto_next f HBI.out.1
            rw [e2] at h9
            have h8 := upto_at f HBI.out.1
            have h7 : (upto f L i).set i b = upto f L i := by
              obtain ⟨hl, he⟩ := List.getElem?_eq_some_iff.1 h8
              rw [← he, List.set_getElem_self]
            rw [← h9, h7]
            exact HB.out
          have hf0 : is = false := by rw [← HIS.out]; exact HDO.out.z hz
          subst hf0
          clear hz HB
          go_wp2_with fail
          go_meet
          exact ⟨_, rfl, HME⟩
        · have q0 : (b.ct == 0) = false := by simpa using hz
          have HNZ : Hid (b.ct ≠ 0) := hz
          obtain ⟨g1, g2⟩ := HDO.out.a hz
          obtain ⟨g3, g4⟩ := HDO.out.lo hz
          have HG : Hid (now - b.lt ≤ d.ev ∧ 0 ≤ now - b.lt ∧ 1 ≤ b.ct ∧ is = !(decide (now - b.lt = d.ev) && decide (d.tr ≤ b.ct))) := ⟨g1, g3, g4, by rw [← HIS.out]; exact g2⟩
          have ws : IntKind.i64.wrap (now - b.lt) = now - b.lt := by have := HEV.out; rw [IntKind.wrap_i64]; omega
          clear hz g1 g2 g3 g4
          go_upto_region 9 with fail
          clear c20
          refine MixH.start (fun A => A.rangeAt g (i * 21) (bvC b).toList ∧ CfgAt A B d) (by kernel_rfl) ?_
          obtain ⟨wA, hwA⟩ : ∃ wA, wA = wB.drew := ⟨_, rfl⟩
          have bdr : Below wB.heap.size wB wA := by rw [hwA]; exact (Below.refl _ _).drew
          have HA : Hid (DU W t M d E w B base v (upto f L i) ab av A wA) := HB.out.below bdr
          have hS : wA.rangeAt g (i * 21) (bvC b).toList ∧ CfgAt wA B d := ⟨HRB.out wA HA.out, HA.out.c⟩
          rw [← hwA]
          clear hwA bdr HB
          refine MixH.takes [true, true, true] 8 (by kernel_rfl) (by kernel_rfl) (by decide) (by kernel_rfl) hS (fun K hK => ?_)
          simp only [Mix.pick]
          repeat (go_big_quiet_step (fail))
          refine wpQuiet_nil (hK _ ?_)
          clear hK K
          refine MixH.takes [false, false, false, true] 7 (by kernel_rfl) (by kernel_rfl) (by decide) (by kernel_rfl) hS (fun K hK => ?_)
          simp only [Mix.pick]
          repeat (go_big_quiet_step (fail))
          refine wpQuiet_nil (hK _ ?_)
          clear hK K
          refine MixH.takes [false, false, false, false, true] 6 (by kernel_rfl) (by kernel_rfl) (by decide) (by kernel_rfl) hS (fun K hK => ?_)
          simp only [Mix.pick]
          repeat (go_big_quiet_step (fail))
          refine wpQuiet_nil (hK _ ?_)
          clear hK K
          refine MixH.take 5 5 _ (.int .i64 b.lt) rfl (by kernel_rfl) (by kernel_rfl) (by kernel_rfl) (by kernel_rfl) (yields_int (.tmp 44) rfl ⟨g, i * 21 + 19, none⟩ (.int .i64 b.lt) rfl rfl (fun A hA => hA.1 19 _ rfl)) hS (fun a' ha => ?_)
          simp only [Act.put, List.setIfInBounds_toArray, List.set_cons_succ, List.set_cons_zero] at ha
          subst ha
          refine MixH.takes [false, false, false, false, false, false, true, true] 3 (by kernel_rfl) (by kernel_rfl) (by decide) (by kernel_rfl) hS (fun K hK => ?_)
          simp only [Mix.pick]
          repeat (go_big_quiet_step (fail))
          refine wpQuiet_nil (hK _ ?_)
          clear hK K
          refine MixH.take 2 8 _ (.int .i64 d.ev) rfl (by kernel_rfl) (by kernel_rfl) (by kernel_rfl) (by kernel_rfl) (yields_int (.tmp 47) rfl ⟨B, 2, none⟩ (.int .i64 d.ev) rfl rfl (fun A hA => hA.2.cell 2)) hS (fun a' ha => ?_)
          simp only [Act.put, List.setIfInBounds_toArray, List.set_cons_succ, List.set_cons_zero] at ha
          subst ha
          refine MixH.takes [false, false, false, false, false, false, false, false, false, true] 1 (by kernel_rfl) (by kernel_rfl) (by decide) (by kernel_rfl) hS (fun K hK => ?_)
          simp only [Mix.pick]
          repeat (go_big_quiet_step (fail))
          refine wpQuiet_nil (hK _ ?_)
          clear hK K
          refine MixH.takes [false, false, false, false, false, false, false, false, false, false, true] 0 (by kernel_rfl) (by kernel_rfl) (by decide) (by kernel_rfl) hS (fun K hK => ?_)
          simp only [Mix.pick]
          repeat (go_big_quiet_step (fail))
          refine wpQuiet_nil (hK _ ?_)
          clear hK K
          refine MixH.done (by kernel_rfl) ?_
          clear hS
          by_cases hov : now - b.lt = d.ev
          · have qv : (now - b.lt == d.ev) = true := by simpa using hov
            rw [qv]
            have qg : decide (now - b.lt > d.ev) = false := by rw [decide_eq_false_iff_not]; omega
            by_cases hct : d.tr ≤ b.ct
            · have qc : decide (b.ct ≥ d.tr) = true := by simpa using hct
              have hf0 : is = false := by have h9 := HG.out.2.2.2; rw [decide_eq_true hov, decide_eq_true hct] at h9; exact h9
              subst hf0
              have HFB : Hid (f b = { b with ct := 0 } ∧ dA d E now b = false) := by
                refine ⟨?_, ?_⟩
                · rw [HF.out]; unfold dB; rw [if_neg HNZ.out, if_pos hov, HIS.out]; rfl
                · unfold dA; rw [HIS.out]; simp
              clear hov hct
              go_upto_region 10 with fail
              refine MixH.start (fun X => X.rangeAt g (i * 21) (bvC b).toList ∧ CfgAt X B d) (by kernel_rfl) ?_
              obtain ⟨wZ, hwZ⟩ : ∃ wZ, wZ = wA.drew := ⟨_, rfl⟩
              have bdr : Below wA.heap.size wA wZ := by rw [hwZ]; exact (Below.refl _ _).drew
              have HZ : Hid (DU W t M d E w B base v (upto f L i) ab av A wZ) := HA.out.below bdr
              have hS : wZ.rangeAt g (i * 21) (bvC b).toList ∧ CfgAt wZ B d := ⟨HRB.out wZ HZ.out, HZ.out.c⟩
              rw [← hwZ]
              clear hwZ bdr HA
              refine MixH.takes [true, true, true] 22 (by kernel_rfl) (by kernel_rfl) (by decide) (by kernel_rfl) hS (fun K hK => ?_)
              simp only [Mix.pick]
              repeat (go_big_quiet_step (fail))
              refine wpQuiet_nil (hK _ ?_)
              clear hK K
              refine MixH.takes [false, false, false, true] 21 (by kernel_rfl) (by kernel_rfl) (by decide) (by kernel_rfl) hS (fun K hK => ?_)
              simp only [Mix.pick]
              repeat (go_big_quiet_step (fail))
              refine wpQuiet_nil (hK _ ?_)
              clear hK K
              refine MixH.takes [false, false, false, false, true] 20 (by kernel_rfl) (by kernel_rfl) (by decide) (by kernel_rfl) hS (fun K hK => ?_)
              simp only [Mix.pick]
              repeat (go_big_quiet_step (fail))
              refine wpQuiet_nil (hK _ ?_)
              clear hK K
              refine MixH.take 19 5 _ (.int .i64 b.lt) rfl (by kernel_rfl) (by kernel_rfl) (by kernel_rfl) (by kernel_rfl) (yields_int (.tmp 54) rfl ⟨g, i * 21 + 19, none⟩ (.int .i64 b.lt) rfl rfl (fun A hA => hA.1 19 _ rfl)) hS (fun a' ha => ?_)
              simp only [Act.put, List.setIfInBounds_toArray, List.set_cons_succ, List.set_cons_zero] at ha
              subst ha
              refine MixH.takes [false, false, false, false, false, false, true, true] 17 (by kernel_rfl) (by kernel_rfl) (by decide) (by kernel_rfl) hS (fun K hK => ?_)
              simp only [Mix.pick]
              repeat (go_big_quiet_step (fail))
              refine wpQuiet_nil (hK _ ?_)
              clear hK K
              refine MixH.take 16 8 _ (.int .i64 d.ev) rfl (by kernel_rfl) (by kernel_rfl) (by kernel_rfl) (by kernel_rfl) (yields_int (.tmp 57) rfl ⟨B, 2, none⟩ (.int .i64 d.ev) rfl rfl (fun A hA => hA.2.cell 2)) hS (fun a' ha => ?_)
              simp only [Act.put, List.setIfInBounds_toArray, List.set_cons_succ, List.set_cons_zero] at ha
              subst ha
              refine MixH.takes [false, false, false, false, false, false, false, false, false, true] 15 (by kernel_rfl) (by kernel_rfl) (by decide) (by kernel_rfl) hS (fun K hK => ?_)
              simp only [Mix.pick]
              repeat (go_big_quiet_step (fail))
              refine wpQuiet_nil (hK _ ?_)
              clear hK K
              refine MixH.takes [false, false, false, false, false, false, false, false, false, false, true] 14 (by kernel_rfl) (by kernel_rfl) (by decide) (by kernel_rfl) hS (fun K hK => ?_)
              simp only [Mix.pick]
              repeat (go_big_quiet_step (fail))
              refine wpQuiet_nil (hK _ ?_)
              clear hK K
              refine MixH.takes [false, false, false, false, false, false, false, false, false, false, false, true, true] 12 (by kernel_rfl) (by kernel_rfl) (by decide) (by kernel_rfl) hS (fun K hK => ?_)
              simp only [Mix.pick]
              repeat (go_big_quiet_step (fail))
              refine wpQuiet_nil (hK _ ?_)
              clear hK K
              refine MixH.takes [false, false, false, false, false, false, false, false, false, false, false, false, false, true] 11 (by kernel_rfl) (by kernel_rfl) (by decide) (by kernel_rfl) hS (fun K hK => ?_)
              simp only [Mix.pick]
              repeat (go_big_quiet_step (fail))
              refine wpQuiet_nil (hK _ ?_)
              clear hK K
              refine MixH.takes [false, false, false, false, false, false, false, false, false, false, false, false, false, false, true, true] 9 (by kernel_rfl) (by kernel_rfl) (by decide) (by kernel_rfl) hS (fun K hK => ?_)
              simp only [Mix.pick]
              repeat (go_big_quiet_step (fail))
              refine wpQuiet_nil (hK _ ?_)
              clear hK K
              refine MixH.takes [false, false, false, false, false, false, false, false, false, false, false, false, false, false, false, false, true] 8 (by kernel_rfl) (by kernel_rfl) (by decide) (by kernel_rfl) hS (fun K hK => ?_)
              simp only [Mix.pick]
              repeat (go_big_quiet_step (fail))
              refine wpQuiet_nil (hK _ ?_)
              clear hK K
              refine MixH.takes [false, false, false, false, false, false, false, false, false, false, false, false, false, false, false, false, false, true] 7 (by kernel_rfl) (by kernel_rfl) (by decide) (by kernel_rfl) hS (fun K hK => ?_)
              simp only [Mix.pick]
              repeat (go_big_quiet_step (fail))
              refine wpQuiet_nil (hK _ ?_)
              clear hK K
              refine MixH.take 6 18 _ (.int .i64 b.ct) rfl (by kernel_rfl) (by kernel_rfl) (by kernel_rfl) (by kernel_rfl) (yields_int (.tmp 67) rfl ⟨g, i * 21 + 20, none⟩ (.int .i64 b.ct) rfl rfl (fun A hA => hA.1 20 _ rfl)) hS (fun a' ha => ?_)
              simp only [Act.put, List.setIfInBounds_toArray, List.set_cons_succ, List.set_cons_zero] at ha
              subst ha
              refine MixH.takes [false, false, false, false, false, false, false, false, false, false, false, false, false, false, false, false, false, false, false, true] 5 (by kernel_rfl) (by kernel_rfl) (by decide) (by kernel_rfl) hS (fun K hK => ?_)
              simp only [Mix.pick]
              repeat (go_big_quiet_step (fail))
              refine wpQuiet_nil (hK _ ?_)
              clear hK K
              refine MixH.take 4 20 _ (.int .i64 d.tr) rfl (by kernel_rfl) (by kernel_rfl) (by kernel_rfl) (by kernel_rfl) (yields_int (.tmp 69) rfl ⟨B, 3, none⟩ (.int .i64 d.tr) rfl rfl (fun A hA => hA.2.cell 3)) hS (fun a' ha => ?_)
              simp only [Act.put, List.setIfInBounds_toArray, List.set_cons_succ, List.set_cons_zero] at ha
              subst ha
              refine MixH.takes [false, false, false, false, false, false, false, false, false, false, false, false, false, false, false, false, false, false, false, false, false, true] 3 (by kernel_rfl) (by kernel_rfl) (by decide) (by kernel_rfl) hS (fun K hK => ?_)
              simp only [Mix.pick]
              repeat (go_big_quiet_step (fail))
              refine wpQuiet_nil (hK _ ?_)
              clear hK K
              refine MixH.takes [false, false, false, false, false, false, false, false, false, false, false, false, false, false, false, false, false, false, false, false, false, false, true] 2 (by kernel_rfl) (by kernel_rfl) (by decide) (by kernel_rfl) hS (fun K hK => ?_)
              simp only [Mix.pick]
              repeat (go_big_quiet_step (fail))
              refine wpQuiet_nil (hK _ ?_)
              clear hK K
              refine MixH.takes [false, false, false, false, false, false, false, false, false, false, false, false, false, false, false, false, false, false, false, false, false, false, false, true] 1 (by kernel_rfl) (by kernel_rfl) (by decide) (by kernel_rfl) hS (fun K hK => ?_)
              simp only [Mix.pick]
              repeat (go_big_quiet_step (fail))
              refine wpQuiet_nil (hK _ ?_)
              clear hK K
              refine MixH.takes [false, false, false, false, false, false, false, false, false, false, false, false, false, false, false, false, false, false, false, false, false, false, false, false, true] 0 (by kernel_rfl) (by kernel_rfl) (by decide) (by kernel_rfl) hS (fun K hK => ?_)
              simp only [Mix.pick]
              repeat (go_big_quiet_step (fail))
              refine wpQuiet_nil (hK _ ?_)
              clear hK K
              refine MixH.done (by kernel_rfl) ?_
              clear hS
              have c20 : wZ.cell? ⟨g, i * 21 + 20, none⟩ = some (.int .i64 b.ct) := HRB.out wZ HZ.out 20 _ rfl
              have f20 : wZ.frozen? ⟨g, i * 21 + 20, none⟩ = false := by have h9 := HZ.out.b; rw [HV.out.1] at h9; exact h9.fz _
              have HME : Hid (m = ((L.take (i + 1)).filter (dA d E now)).length ∧ DU W t M d E w B base v (upto f L (i + 1)) ab av A (wZ.setCell ⟨g, i * 21 + 20, none⟩ (.int .i64 0))) := by
                refine ⟨by rw [HTK.out, List.filter_append, List.filter_cons, if_neg (by rw [HFB.out.2]; decide), List.filter_nil, List.append_nil]; exact HM.out, ?_⟩
                have h9 := HZ.out
                rw [HV.out.1] at h9 ⊢
                have h8 := h9.set (b' := { b with ct := 0 }) HN.out.2.2.1 (by rw [upto_len]; exact HN.out.1) (upto_at f HBI.out.1) (j := 20) (u := .int .i64 0) (by omega) rfl
                rw [← HFB.out.1, upto_next f HBI.out.1] at h8
                exact h8
              clear HZ
              go_wp2_with fail
              go_meet
              exact ⟨_, rfl, HME⟩
            · have qc : decide (b.ct ≥ d.tr) = false := by simpa using hct
              have hf0 : is = true := by have h9 := HG.out.2.2.2; rw [decide_eq_true hov, decide_eq_false hct] at h9; exact h9
              subst hf0
              have HFB : Hid (f b = { b with lt := now, ct := b.ct + 1 } ∧ dA d E now b = true ∧ b.ct < d.tr) := by
                refine ⟨?_, ?_, by omega⟩
                · rw [HF.out]; unfold dB; rw [if_neg HNZ.out, if_pos hov, HIS.out]; rfl
                · unfold dA
                  have e1 : (b.ct == 0) = false := q0
                  rw [HIS.out, e1, qv]
                  rfl
              clear hov hct
              go_upto_region 10 with fail
              refine MixH.start (fun X => X.rangeAt g (i * 21) (bvC b).toList ∧ CfgAt X B d) (by kernel_rfl) ?_
              obtain ⟨wZ, hwZ⟩ : ∃ wZ, wZ = wA.drew := ⟨_, rfl⟩
              have bdr : Below wA.heap.size wA wZ := by rw [hwZ]; exact (Below.refl _ _).drew
              have HZ : Hid (DU W t M d E w B base v (upto f L i) ab av A wZ) := HA.out.below bdr
              have hS : wZ.rangeAt g (i * 21) (bvC b).toList ∧ CfgAt wZ B d := ⟨HRB.out wZ HZ.out, HZ.out.c⟩
              rw [← hwZ]
              clear hwZ bdr HA
              refine MixH.takes [true, true, true] 22 (by kernel_rfl) (by kernel_rfl) (by decide) (by kernel_rfl) hS (fun K hK => ?_)
              simp only [Mix.pick]
              repeat (go_big_quiet_step (fail))
              refine wpQuiet_nil (hK _ ?_)
              clear hK K
              refine MixH.takes [false, false, false, true] 21 (by kernel_rfl) (by kernel_rfl) (by decide) (by kernel_rfl) hS (fun K hK => ?_)
              simp only [Mix.pick]
              repeat (go_big_quiet_step (fail))
              refine wpQuiet_nil (hK _ ?_)
              clear hK K
              refine MixH.takes [false, false, false, false, true] 20 (by kernel_rfl) (by kernel_rfl) (by decide) (by kernel_rfl) hS (fun K hK => ?_)
              simp only [Mix.pick]
              repeat (go_big_quiet_step (fail))
              refine wpQuiet_nil (hK _ ?_)
              clear hK K
              refine MixH.take 19 5 _ (.int .i64 b.lt) rfl (by kernel_rfl) (by kernel_rfl) (by kernel_rfl) (by kernel_rfl) (yields_int (.tmp 54) rfl ⟨g, i * 21 + 19, none⟩ (.int .i64 b.lt) rfl rfl (fun A hA => hA.1 19 _ rfl)) hS (fun a' ha => ?_)
              simp only [Act.put, List.setIfInBounds_toArray, List.set_cons_succ, List.set_cons_zero] at ha
              subst ha
              refine MixH.takes [false, false, false, false, false, false, true, true] 17 (by kernel_rfl) (by kernel_rfl) (by decide) (by kernel_rfl) hS (fun K hK => ?_)
              simp only [Mix.pick]
              repeat (go_big_quiet_step (fail))
              refine wpQuiet_nil (hK _ ?_)
              clear hK K
              refine MixH.take 16 8 _ (.int .i64 d.ev) rfl (by kernel_rfl) (by kernel_rfl) (by kernel_rfl) (by kernel_rfl) (yields_int (.tmp 57) rfl ⟨B, 2, none⟩ (.int .i64 d.ev) rfl rfl (fun A hA => hA.2.cell 2)) hS (fun a' ha => ?_)
              simp only [Act.put, List.setIfInBounds_toArray, List.set_cons_succ, List.set_cons_zero] at ha
              subst ha
              refine MixH.takes [false, false, false, false, false, false, false, false, false, true] 15 (by kernel_rfl) (by kernel_rfl) (by decide) (by kernel_rfl) hS (fun K hK => ?_)
              simp only [Mix.pick]
              repeat (go_big_quiet_step (fail))
              refine wpQuiet_nil (hK _ ?_)
              clear hK K
              refine MixH.takes [false, false, false, false, false, false, false, false, false, false, true] 14 (by kernel_rfl) (by kernel_rfl) (by decide) (by kernel_rfl) hS (fun K hK => ?_)
              simp only [Mix.pick]
              repeat (go_big_quiet_step (fail))
              refine wpQuiet_nil (hK _ ?_)
              clear hK K
              refine MixH.takes [false, false, false, false, false, false, false, false, false, false, false, true, true] 12 (by kernel_rfl) (by kernel_rfl) (by decide) (by kernel_rfl) hS (fun K hK => ?_)
              simp only [Mix.pick]
              repeat (go_big_quiet_step (fail))
              refine wpQuiet_nil (hK _ ?_)
              clear hK K
              refine MixH.takes [false, false, false, false, false, false, false, false, false, false, false, false, false, true] 11 (by kernel_rfl) (by kernel_rfl) (by decide) (by kernel_rfl) hS (fun K hK => ?_)
              simp only [Mix.pick]
              repeat (go_big_quiet_step (fail))
              refine wpQuiet_nil (hK _ ?_)
              clear hK K
              refine MixH.takes [false, false, false, false, false, false, false, false, false, false, false, false, false, false, true, true] 9 (by kernel_rfl) (by kernel_rfl) (by decide) (by kernel_rfl) hS (fun K hK => ?_)
              simp only [Mix.pick]
              repeat (go_big_quiet_step (fail))
              refine wpQuiet_nil (hK _ ?_)
              clear hK K
              refine MixH.takes [false, false, false, false, false, false, false, false, false, false, false, false, false, false, false, false, true] 8 (by kernel_rfl) (by kernel_rfl) (by decide) (by kernel_rfl) hS (fun K hK => ?_)
              simp only [Mix.pick]
              repeat (go_big_quiet_step (fail))
              refine wpQuiet_nil (hK _ ?_)
              clear hK K
              refine MixH.takes [false, false, false, false, false, false, false, false, false, false, false, false, false, false, false, false, false, true] 7 (by kernel_rfl) (by kernel_rfl) (by decide) (by kernel_rfl) hS (fun K hK => ?_)
              simp only [Mix.pick]
              repeat (go_big_quiet_step (fail))
              refine wpQuiet_nil (hK _ ?_)
              clear hK K
              refine MixH.take 6 18 _ (.int .i64 b.ct) rfl (by kernel_rfl) (by kernel_rfl) (by kernel_rfl) (by kernel_rfl) (yields_int (.tmp 67) rfl ⟨g, i * 21 + 20, none⟩ (.int .i64 b.ct) rfl rfl (fun A hA => hA.1 20 _ rfl)) hS (fun a' ha => ?_)
              simp only [Act.put, List.setIfInBounds_toArray, List.set_cons_succ, List.set_cons_zero] at ha
              subst ha
              refine MixH.takes [false, false, false, false, false, false, false, false, false, false, false, false, false, false, false, false, false, false, false, true] 5 (by kernel_rfl) (by kernel_rfl) (by decide) (by kernel_rfl) hS (fun K hK => ?_)
              simp only [Mix.pick]
              repeat (go_big_quiet_step (fail))
              refine wpQuiet_nil (hK _ ?_)
              clear hK K
              refine MixH.take 4 20 _ (.int .i64 d.tr) rfl (by kernel_rfl) (by kernel_rfl) (by kernel_rfl) (by kernel_rfl) (yields_int (.tmp 69) rfl ⟨B, 3, none⟩ (.int .i64 d.tr) rfl rfl (fun A hA => hA.2.cell 3)) hS (fun a' ha => ?_)
              simp only [Act.put, List.setIfInBounds_toArray, List.set_cons_succ, List.set_cons_zero] at ha
              subst ha
              refine MixH.takes [false, false, false, false, false, false, false, false, false, false, false, false, false, false, false, false, false, false, false, false, false, true] 3 (by kernel_rfl) (by kernel_rfl) (by decide) (by kernel_rfl) hS (fun K hK => ?_)
              simp only [Mix.pick]
              repeat (go_big_quiet_step (fail))
              refine wpQuiet_nil (hK _ ?_)
              clear hK K
              refine MixH.takes [false, false, false, false, false, false, false, false, false, false, false, false, false, false, false, false, false, false, false, false, false, false, true] 2 (by kernel_rfl) (by kernel_rfl) (by decide) (by kernel_rfl) hS (fun K hK => ?_)
              simp only [Mix.pick]
              repeat (go_big_quiet_step (fail))
              refine wpQuiet_nil (hK _ ?_)
              clear hK K
              refine MixH.takes [false, false, false, false, false, false, false, false, false, false, false, false, false, false, false, false, false, false, false, false, false, false, false, true] 1 (by kernel_rfl) (by kernel_rfl) (by decide) (by kernel_rfl) hS (fun K hK => ?_)
              simp only [Mix.pick]
              repeat (go_big_quiet_step (fail))
              refine wpQuiet_nil (hK _ ?_)
              clear hK K
              refine MixH.takes [false, false, false, false, false, false, false, false, false, false, false, false, false, false, false, false, false, false, false, false, false, false, false, false, true] 0 (by kernel_rfl) (by kernel_rfl) (by decide) (by kernel_rfl) hS (fun K hK => ?_)
              simp only [Mix.pick]
              repeat (go_big_quiet_step (fail))
              refine wpQuiet_nil (hK _ ?_)
              clear hK K
              refine MixH.done (by kernel_rfl) ?_
              clear hS
              have HMI : Hid ((L.filter (dA d E now))[m]? = some b) := by
                show _ = _
                have e1 : L = L.take i ++ b :: L.drop (i + 1) := by
                  obtain ⟨hl, he⟩ := List.getElem?_eq_some_iff.1 HBI.out.1
                  rw [← he, ← List.drop_eq_getElem_cons hl, List.take_append_drop]
                rw [e1, List.filter_append, List.filter_cons, if_pos HFB.out.2.1, List.getElem?_append_right (by rw [← HM.out]; exact Nat.le_refl _), ← HM.out, Nat.sub_self]
                rfl
              have hml : m < an := by
                have h1 := (List.getElem?_eq_some_iff.1 HMI.out).1
                rw [HAN.out.1, HSI.out.1]
                exact h1
              obtain ⟨a, ha⟩ : ∃ a, A[m]? = some a := ⟨_, List.getElem?_eq_getElem (by rw [← HAN.out.1]; exact hml)⟩
              obtain ⟨hak, hat⟩ := HSI.out.2 m a b ha HMI.out
              obtain ⟨hap, hai⟩ := ip_same hak
              obtain ⟨ga, ca, hav, _, _, _⟩ := HZ.out.a.at m a ha
              have hvv := HV.out.2
              rw [hvv, ← HAN.out.1] at hav
              simp only [Value.slice.injEq] at hav
              obtain ⟨rfl, _, rfl⟩ := hav
              have HRA : Hid (∀ X, DU W t M d E w B base v (upto f L i) ab av A X → X.cell? ⟨ga, m * 25, none⟩ = some (.int .i64 b.k.pt) ∧ X.rangeAt ga (m * 25 + 1) (ipCells b.k.V b.k.x).toList ∧ X.cell? ⟨ga, m * 25 + 24, none⟩ = some (.int .i64 (b.ct + 1))) := fun X hX => by
                obtain ⟨g', cap', hv', _, _, hr⟩ := hX.a.at m a ha
                rw [hvv] at hv'
                simp only [Value.slice.injEq, Option.some.injEq, Addr.mk.injEq, and_true] at hv'
                obtain ⟨⟨rfl, _⟩, _⟩ := hv'
                refine ⟨?_, ?_, ?_⟩
                · have := hr 0 _ rfl
                  rw [← hap]
                  exact this
                · rw [← hai]; exact ak_ip hr
                · rw [← hat]; exact hr 24 _ rfl
              have m0 : (0 : Int) ≤ (m : Int) := by omega
              have m1 : (m : Int) < (an : Int) := by omega
              have m2 : ((m : Int)).toNat = m := by omega
              have m3 : decide ((m : Int) ≥ (an : Int)) = false := by rw [decide_eq_false_iff_not]; omega
              have m4 : decide (an ≤ m) = false := by rw [decide_eq_false_iff_not]; omega
              have m5 : ¬ an ≤ m := by omega
              have wm : IntKind.i64.wrap ((m : Int) + 1) = ((m + 1 : Nat) : Int) := by have := HAN.out.2; rw [IntKind.wrap_i64]; omega
              have wc1 : IntKind.i64.wrap (b.ct + 1) = b.ct + 1 := by have := HG.out.2.2.1; have := HFB.out.2.2; have := HZ.out.l.cf.tr; rw [IntKind.wrap_i64]; omega
              have qp : (b.k.pt != b.k.pt) = false := by simp
              have qt : (b.ct + 1 != b.ct + 1) = false := by simp
              clear ha hak hat hap hai hvv
              go_upto_region 15 with fail
              refine MixH.start (fun X => X.rangeAt g (i * 21) (bvC b).toList ∧ CfgAt X B d ∧ X.cell? ⟨ga, m * 25, none⟩ = some (.int .i64 b.k.pt) ∧ X.rangeAt ga (m * 25 + 1) (ipCells b.k.V b.k.x).toList ∧ X.cell? ⟨ga, m * 25 + 24, none⟩ = some (.int .i64 (b.ct + 1))) (by kernel_rfl) ?_
              obtain ⟨wD, hwD⟩ : ∃ wD, wD = wZ.drew := ⟨_, rfl⟩
              have bdr : Below wZ.heap.size wZ wD := by rw [hwD]; exact (Below.refl _ _).drew
              have HDD : Hid (DU W t M d E w B base v (upto f L i) ab av A wD) := HZ.out.below bdr
              have hS : wD.rangeAt g (i * 21) (bvC b).toList ∧ CfgAt wD B d ∧ wD.cell? ⟨ga, m * 25, none⟩ = some (.int .i64 b.k.pt) ∧ wD.rangeAt ga (m * 25 + 1) (ipCells b.k.V b.k.x).toList ∧ wD.cell? ⟨ga, m * 25 + 24, none⟩ = some (.int .i64 (b.ct + 1)) := ⟨HRB.out wD HDD.out, HDD.out.c, HRA.out wD HDD.out⟩
              rw [← hwD]
              clear hwD bdr HZ
              refine MixH.takes [true, true] 42 (by kernel_rfl) (by kernel_rfl) (by decide) (by kernel_rfl) hS (fun K hK => ?_)
              simp only [Mix.pick]
              repeat (go_big_quiet_step (fail))
              refine wpQuiet_nil (hK _ ?_)
              clear hK K
              refine MixH.takes [false, false, true] 41 (by kernel_rfl) (by kernel_rfl) (by decide) (by kernel_rfl) hS (fun K hK => ?_)
              simp only [Mix.pick]
              repeat (go_big_quiet_step (fail))
              refine wpQuiet_nil (hK _ ?_)
              clear hK K
              refine MixH.takes [false, false, false, true] 40 (by kernel_rfl) (by kernel_rfl) (by decide) (by kernel_rfl) hS (fun K hK => ?_)
              simp only [Mix.pick]
              repeat (go_big_quiet_step (fail))
              refine wpQuiet_nil (hK _ ?_)
              clear hK K
              refine MixH.takes [false, false, false, false, true] 39 (by kernel_rfl) (by kernel_rfl) (by decide) (by kernel_rfl) hS (fun K hK => ?_)
              simp only [Mix.pick]
              repeat (go_big_quiet_step (fail))
              refine wpQuiet_nil (hK _ ?_)
              clear hK K
              refine MixH.takes [false, false, false, false, false, true, true] 37 (by kernel_rfl) (by kernel_rfl) (by decide) (by kernel_rfl) hS (fun K hK => ?_)
              simp only [Mix.pick]
              repeat (go_big_quiet_step (fail))
              refine wpQuiet_nil (hK _ ?_)
              clear hK K
              refine MixH.takes [false, false, false, false, false, false, false, true] 36 (by kernel_rfl) (by kernel_rfl) (by decide) (by kernel_rfl) hS (fun K hK => ?_)
              simp only [Mix.pick]
              repeat (go_big_quiet_step (fail))
              refine wpQuiet_nil (hK _ ?_)
              clear hK K
              refine MixH.takes [false, false, false, false, false, false, false, false, true] 35 (by kernel_rfl) (by kernel_rfl) (by decide) (by kernel_rfl) hS (fun K hK => ?_)
              simp only [Mix.pick]
              repeat (go_big_quiet_step (fail))
              refine wpQuiet_nil (hK _ ?_)
              clear hK K
              refine MixH.take 34 9 _ (.int .i64 b.k.pt) rfl (by kernel_rfl) (by kernel_rfl) (by kernel_rfl) (by kernel_rfl) (yields_int (.tmp 91) rfl ⟨ga, m * 25, none⟩ (.int .i64 b.k.pt) rfl rfl (fun A hA => hA.2.2.1)) hS (fun a' ha => ?_)
              simp only [Act.put, List.setIfInBounds_toArray, List.set_cons_succ, List.set_cons_zero] at ha
              subst ha
              refine MixH.takes [false, false, false, false, false, false, false, false, false, false, true, true] 32 (by kernel_rfl) (by kernel_rfl) (by decide) (by kernel_rfl) hS (fun K hK => ?_)
              simp only [Mix.pick]
              repeat (go_big_quiet_step (fail))
              refine wpQuiet_nil (hK _ ?_)
              clear hK K
              refine MixH.takes [false, false, false, false, false, false, false, false, false, false, false, false, true] 31 (by kernel_rfl) (by kernel_rfl) (by decide) (by kernel_rfl) hS (fun K hK => ?_)
              simp only [Mix.pick]
              repeat (go_big_quiet_step (fail))
              refine wpQuiet_nil (hK _ ?_)
              clear hK K
              refine MixH.takes [false, false, false, false, false, false, false, false, false, false, false, false, false, true] 30 (by kernel_rfl) (by kernel_rfl) (by decide) (by kernel_rfl) hS (fun K hK => ?_)
              simp only [Mix.pick]
              repeat (go_big_quiet_step (fail))
              refine wpQuiet_nil (hK _ ?_)
              clear hK K
              refine MixH.take 29 14 _ (.int .i64 b.k.pt) rfl (by kernel_rfl) (by kernel_rfl) (by kernel_rfl) (by kernel_rfl) (yields_int (.tmp 96) rfl ⟨g, i * 21, none⟩ (.int .i64 b.k.pt) rfl rfl (fun A hA => hA.1 0 _ rfl)) hS (fun a' ha => ?_)
              simp only [Act.put, List.setIfInBounds_toArray, List.set_cons_succ, List.set_cons_zero] at ha
              subst ha
              refine MixH.takes [false, false, false, false, false, false, false, false, false, false, false, false, false, false, false, true] 28 (by kernel_rfl) (by kernel_rfl) (by decide) (by kernel_rfl) hS (fun K hK => ?_)
              simp only [Mix.pick]
              repeat (go_big_quiet_step (fail))
              refine wpQuiet_nil (hK _ ?_)
              clear hK K
              refine MixH.takes [false, false, false, false, false, false, false, false, false, false, false, false, false, false, false, false, true] 27 (by kernel_rfl) (by kernel_rfl) (by decide) (by kernel_rfl) hS (fun K hK => ?_)
              simp only [Mix.pick]
              repeat (go_big_quiet_step (fail))
              refine wpQuiet_nil (hK _ ?_)
              clear hK K
              refine MixH.takes [false, false, false, false, false, false, false, false, false, false, false, false, false, false, false, false, false, true] 26 (by kernel_rfl) (by kernel_rfl) (by decide) (by kernel_rfl) hS (fun K hK => ?_)
              simp only [Mix.pick]
              repeat (go_big_quiet_step (fail))
              refine wpQuiet_nil (hK _ ?_)
              clear hK K
              refine MixH.takes [false, false, false, false, false, false, false, false, false, false, false, false, false, false, false, false, false, false, true, true] 24 (by kernel_rfl) (by kernel_rfl) (by decide) (by kernel_rfl) hS (fun K hK => ?_)
              simp only [Mix.pick]
              repeat (go_big_quiet_step (fail))
              refine wpQuiet_nil (hK _ ?_)
              clear hK K
              refine MixH.takes [false, false, false, false, false, false, false, false, false, false, false, false, false, false, false, false, false, false, false, false, true] 23 (by kernel_rfl) (by kernel_rfl) (by decide) (by kernel_rfl) hS (fun K hK => ?_)
              simp only [Mix.pick]
              repeat (go_big_quiet_step (fail))
              refine wpQuiet_nil (hK _ ?_)
              clear hK K
              refine MixH.takes [false, false, false, false, false, false, false, false, false, false, false, false, false, false, false, false, false, false, false, false, false, true] 22 (by kernel_rfl) (by kernel_rfl) (by decide) (by kernel_rfl) hS (fun K hK => ?_)
              simp only [Mix.pick]
              repeat (go_big_quiet_step (fail))
              refine wpQuiet_nil (hK _ ?_)
              clear hK K
              refine MixH.take 21 22 _ (.agg (ipCells b.k.V b.k.x)) rfl (by kernel_rfl) (by kernel_rfl) (by kernel_rfl) (by kernel_rfl) (yields_ipr (.tmp 104) rfl ga (m * 25 + 1) b.k.V b.k.x rfl rfl (fun A hA => hA.2.2.2.1)) hS (fun a' ha => ?_)
              simp only [Act.put, List.setIfInBounds_toArray, List.set_cons_succ, List.set_cons_zero] at ha
              subst ha
              refine MixH.takes [false, false, false, false, false, false, false, false, false, false, false, false, false, false, false, false, false, false, false, false, false, false, false, true, true] 19 (by kernel_rfl) (by kernel_rfl) (by decide) (by kernel_rfl) hS (fun K hK => ?_)
              simp only [Mix.pick]
              repeat (go_big_quiet_step (fail))
              refine wpQuiet_nil (hK _ ?_)
              clear hK K
              refine MixH.takes [false, false, false, false, false, false, false, false, false, false, false, false, false, false, false, false, false, false, false, false, false, false, false, false, false, true] 18 (by kernel_rfl) (by kernel_rfl) (by decide) (by kernel_rfl) hS (fun K hK => ?_)
              simp only [Mix.pick]
              repeat (go_big_quiet_step (fail))
              refine wpQuiet_nil (hK _ ?_)
              clear hK K
              refine MixH.takes [false, false, false, false, false, false, false, false, false, false, false, false, false, false, false, false, false, false, false, false, false, false, false, false, false, false, true] 17 (by kernel_rfl) (by kernel_rfl) (by decide) (by kernel_rfl) hS (fun K hK => ?_)
              simp only [Mix.pick]
              repeat (go_big_quiet_step (fail))
              refine wpQuiet_nil (hK _ ?_)
              clear hK K
              refine MixH.take 16 27 _ (.agg (ipCells b.k.V b.k.x)) rfl (by kernel_rfl) (by kernel_rfl) (by kernel_rfl) (by kernel_rfl) (yields_ipr (.tmp 109) rfl g (i * 21 + 1) b.k.V b.k.x rfl rfl (fun A hA => bv_ip hA.1)) hS (fun a' ha => ?_)
              simp only [Act.put, List.setIfInBounds_toArray, List.set_cons_succ, List.set_cons_zero] at ha
              subst ha
              refine MixH.take 15 28 _ (.bool false) rfl (by kernel_rfl) (by kernel_rfl) (by kernel_rfl) (by kernel_rfl) (yields_neq_ip (.tmp 105) (.tmp 110) rfl b.k.V b.k.x rfl rfl rfl) hS (fun a' ha => ?_)
              simp only [Act.put, List.setIfInBounds_toArray, List.set_cons_succ, List.set_cons_zero] at ha
              subst ha
              refine MixH.takes [false, false, false, false, false, false, false, false, false, false, false, false, false, false, false, false, false, false, false, false, false, false, false, false, false, false, false, false, false, true] 14 (by kernel_rfl) (by kernel_rfl) (by decide) (by kernel_rfl) hS (fun K hK => ?_)
              simp only [Mix.pick]
              repeat (go_big_quiet_step (fail))
              refine wpQuiet_nil (hK _ ?_)
              clear hK K
              refine MixH.takes [false, false, false, false, false, false, false, false, false, false, false, false, false, false, false, false, false, false, false, false, false, false, false, false, false, false, false, false, false, false, true] 13 (by kernel_rfl) (by kernel_rfl) (by decide) (by kernel_rfl) hS (fun K hK => ?_)
              simp only [Mix.pick]
              repeat (go_big_quiet_step (fail))
              refine wpQuiet_nil (hK _ ?_)
              clear hK K
              refine MixH.takes [false, false, false, false, false, false, false, false, false, false, false, false, false, false, false, false, false, false, false, false, false, false, false, false, false, false, false, false, false, false, false, true, true] 11 (by kernel_rfl) (by kernel_rfl) (by decide) (by kernel_rfl) hS (fun K hK => ?_)
              simp only [Mix.pick]
              repeat (go_big_quiet_step (fail))
              refine wpQuiet_nil (hK _ ?_)
              clear hK K
              refine MixH.takes [false, false, false, false, false, false, false, false, false, false, false, false, false, false, false, false, false, false, false, false, false, false, false, false, false, false, false, false, false, false, false, false, false, true] 10 (by kernel_rfl) (by kernel_rfl) (by decide) (by kernel_rfl) hS (fun K hK => ?_)
              simp only [Mix.pick]
              repeat (go_big_quiet_step (fail))
              refine wpQuiet_nil (hK _ ?_)
              clear hK K
              refine MixH.takes [false, false, false, false, false, false, false, false, false, false, false, false, false, false, false, false, false, false, false, false, false, false, false, false, false, false, false, false, false, false, false, false, false, false, true] 9 (by kernel_rfl) (by kernel_rfl) (by decide) (by kernel_rfl) hS (fun K hK => ?_)
              simp only [Mix.pick]
              repeat (go_big_quiet_step (fail))
              refine wpQuiet_nil (hK _ ?_)
              clear hK K
              refine MixH.take 8 35 _ (.int .i64 (b.ct + 1)) rfl (by kernel_rfl) (by kernel_rfl) (by kernel_rfl) (by kernel_rfl) (yields_int (.tmp 117) rfl ⟨ga, m * 25 + 24, none⟩ (.int .i64 (b.ct + 1)) rfl rfl (fun A hA => hA.2.2.2.2)) hS (fun a' ha => ?_)
              simp only [Act.put, List.setIfInBounds_toArray, List.set_cons_succ, List.set_cons_zero] at ha
              subst ha
              refine MixH.takes [false, false, false, false, false, false, false, false, false, false, false, false, false, false, false, false, false, false, false, false, false, false, false, false, false, false, false, false, false, false, false, false, false, false, false, false, true, true] 6 (by kernel_rfl) (by kernel_rfl) (by decide) (by kernel_rfl) hS (fun K hK => ?_)
              simp only [Mix.pick]
              repeat (go_big_quiet_step (fail))
              refine wpQuiet_nil (hK _ ?_)
              clear hK K
              refine MixH.takes [false, false, false, false, false, false, false, false, false, false, false, false, false, false, false, false, false, false, false, false, false, false, false, false, false, false, false, false, false, false, false, false, false, false, false, false, false, false, true] 5 (by kernel_rfl) (by kernel_rfl) (by decide) (by kernel_rfl) hS (fun K hK => ?_)
              simp only [Mix.pick]
              repeat (go_big_quiet_step (fail))
              refine wpQuiet_nil (hK _ ?_)
              clear hK K
              refine MixH.takes [false, false, false, false, false, false, false, false, false, false, false, false, false, false, false, false, false, false, false, false, false, false, false, false, false, false, false, false, false, false, false, false, false, false, false, false, false, false, false, true] 4 (by kernel_rfl) (by kernel_rfl) (by decide) (by kernel_rfl) hS (fun K hK => ?_)
              simp only [Mix.pick]
              repeat (go_big_quiet_step (fail))
              refine wpQuiet_nil (hK _ ?_)
              clear hK K
              refine MixH.take 3 40 _ (.int .i64 b.ct) rfl (by kernel_rfl) (by kernel_rfl) (by kernel_rfl) (by kernel_rfl) (yields_int (.tmp 122) rfl ⟨g, i * 21 + 20, none⟩ (.int .i64 b.ct) rfl rfl (fun A hA => hA.1 20 _ rfl)) hS (fun a' ha => ?_)
              simp only [Act.put, List.setIfInBounds_toArray, List.set_cons_succ, List.set_cons_zero] at ha
              subst ha
              refine MixH.takes [false, false, false, false, false, false, false, false, false, false, false, false, false, false, false, false, false, false, false, false, false, false, false, false, false, false, false, false, false, false, false, false, false, false, false, false, false, false, false, false, false, true] 2 (by kernel_rfl) (by kernel_rfl) (by decide) (by kernel_rfl) hS (fun K hK => ?_)
              simp only [Mix.pick]
              repeat (go_big_quiet_step (fail))
              refine wpQuiet_nil (hK _ ?_)
              clear hK K
              refine MixH.takes [false, false, false, false, false, false, false, false, false, false, false, false, false, false, false, false, false, false, false, false, false, false, false, false, false, false, false, false, false, false, false, false, false, false, false, false, false, false, false, false, false, false, true] 1 (by kernel_rfl) (by kernel_rfl) (by decide) (by kernel_rfl) hS (fun K hK => ?_)
              simp only [Mix.pick]
              repeat (go_big_quiet_step (fail))
              refine wpQuiet_nil (hK _ ?_)
              clear hK K
              refine MixH.takes [false, false, false, false, false, false, false, false, false, false, false, false, false, false, false, false, false, false, false, false, false, false, false, false, false, false, false, false, false, false, false, false, false, false, false, false, false, false, false, false, false, false, false, true] 0 (by kernel_rfl) (by kernel_rfl) (by decide) (by kernel_rfl) hS (fun K hK => ?_)
              simp only [Mix.pick]
              repeat (go_big_quiet_step (fail))
              refine wpQuiet_nil (hK _ ?_)
              clear hK K
              refine MixH.done (by kernel_rfl) ?_
              clear hS
              have f19 : wD.frozen? ⟨g, i * 21 + 19, none⟩ = false := by have h9 := HDD.out.b; rw [HV.out.1] at h9; exact h9.fz _
              have f20 : wD.frozen? ⟨g, i * 21 + 20, none⟩ = false := by have h9 := HDD.out.b; rw [HV.out.1] at h9; exact h9.fz _
              have c19 : wD.cell? ⟨g, i * 21 + 19, none⟩ = some (.int .i64 b.lt) := HRB.out wD HDD.out 19 _ rfl
              have c20 : wD.cell? ⟨g, i * 21 + 20, none⟩ = some (.int .i64 b.ct) := HRB.out wD HDD.out 20 _ rfl
              have HME : Hid (m + 1 = ((L.take (i + 1)).filter (dA d E now)).length ∧ DU W t M d E w B base v (upto f L (i + 1)) ab av A ((wD.setCell ⟨g, i * 21 + 19, none⟩ (.int .i64 now)).setCell ⟨g, i * 21 + 20, none⟩ (.int .i64 (b.ct + 1)))) := by
                refine ⟨by rw [HTK.out, List.filter_append, List.filter_cons, if_pos HFB.out.2.1, List.filter_nil, List.length_append, ← HM.out]; rfl, ?_⟩
                have h9 := HDD.out
                rw [HV.out.1] at h9 ⊢
                have hu := upto_at f HBI.out.1
                have hul := (List.getElem?_eq_some_iff.1 hu).1
                have h8 := h9.set (b' := { b with lt := now }) HN.out.2.2.1 (by rw [upto_len]; exact HN.out.1) hu (j := 19) (u := .int .i64 now) (by omega) rfl
                have h7 := h8.set (b := { b with lt := now }) (b' := { b with lt := now, ct := b.ct + 1 }) HN.out.2.2.1 (by rw [List.length_set, upto_len]; exact HN.out.1) (by rw [List.getElem?_set, if_pos rfl, if_pos hul]) (j := 20) (u := .int .i64 (b.ct + 1)) (by omega) rfl
                rw [set_twice, ← HFB.out.1, upto_next f HBI.out.1] at h7
                exact h7
              clear HDD
              go_wp2_with fail
              go_meet
              exact ⟨m + 1, by first | rfl | go_num, HME⟩
          · have qv : (now - b.lt == d.ev) = false := by simpa using hov
            rw [qv]
            have qg : decide (now - b.lt > d.ev) = false := by have := HG.out.1; rw [decide_eq_false_iff_not]; omega
            have hf0 : is = true := by have h9 := HG.out.2.2.2; rw [decide_eq_false hov] at h9; exact h9
            subst hf0
            have HFB : Hid (f b = b ∧ dA d E now b = false) := by
              refine ⟨?_, ?_⟩
              · rw [HF.out]; unfold dB; rw [if_neg HNZ.out, if_neg hov]
              · unfold dA; rw [qv]; simp
            clear hov
            go_upto_region 10 with fail
            refine MixH.start (fun X => X.rangeAt g (i * 21) (bvC b).toList ∧ CfgAt X B d) (by kernel_rfl) ?_
            obtain ⟨wZ, hwZ⟩ : ∃ wZ, wZ = wA.drew := ⟨_, rfl⟩
            have bdr : Below wA.heap.size wA wZ := by rw [hwZ]; exact (Below.refl _ _).drew
            have HZ : Hid (DU W t M d E w B base v (upto f L i) ab av A wZ) := HA.out.below bdr
            have hS : wZ.rangeAt g (i * 21) (bvC b).toList ∧ CfgAt wZ B d := ⟨HRB.out wZ HZ.out, HZ.out.c⟩
            rw [← hwZ]
            clear hwZ bdr HA
            refine MixH.takes [true, true, true] 22 (by kernel_rfl) (by kernel_rfl) (by decide) (by kernel_rfl) hS (fun K hK => ?_)
            simp only [Mix.pick]
            repeat (go_big_quiet_step (fail))
            refine wpQuiet_nil (hK _ ?_)
            clear hK K
            refine MixH.takes [false, false, false, true] 21 (by kernel_rfl) (by kernel_rfl) (by decide) (by kernel_rfl) hS (fun K hK => ?_)
            simp only [Mix.pick]
            repeat (go_big_quiet_step (fail))
            refine wpQuiet_nil (hK _ ?_)
            clear hK K
            refine MixH.takes [false, false, false, false, true] 20 (by kernel_rfl) (by kernel_rfl) (by decide) (by kernel_rfl) hS (fun K hK => ?_)
            simp only [Mix.pick]
            repeat (go_big_quiet_step (fail))
            refine wpQuiet_nil (hK _ ?_)
            clear hK K
            refine MixH.take 19 5 _ (.int .i64 b.lt) rfl (by kernel_rfl) (by kernel_rfl) (by kernel_rfl) (by kernel_rfl) (yields_int (.tmp 54) rfl ⟨g, i * 21 + 19, none⟩ (.int .i64 b.lt) rfl rfl (fun A hA => hA.1 19 _ rfl)) hS (fun a' ha => ?_)
            simp only [Act.put, List.setIfInBounds_toArray, List.set_cons_succ, List.set_cons_zero] at ha
            subst ha
            refine MixH.takes [false, false, false, false, false, false, true, true] 17 (by kernel_rfl) (by kernel_rfl) (by decide) (by kernel_rfl) hS (fun K hK => ?_)
            simp only [Mix.pick]
            repeat (go_big_quiet_step (fail))
            refine wpQuiet_nil (hK _ ?_)
            clear hK K
            refine MixH.take 16 8 _ (.int .i64 d.ev) rfl (by kernel_rfl) (by kernel_rfl) (by kernel_rfl) (by kernel_rfl) (yields_int (.tmp 57) rfl ⟨B, 2, none⟩ (.int .i64 d.ev) rfl rfl (fun A hA => hA.2.cell 2)) hS (fun a' ha => ?_)
            simp only [Act.put, List.setIfInBounds_toArray, List.set_cons_succ, List.set_cons_zero] at ha
            subst ha
            refine MixH.takes [false, false, false, false, false, false, false, false, false, true] 15 (by kernel_rfl) (by kernel_rfl) (by decide) (by kernel_rfl) hS (fun K hK => ?_)
            simp only [Mix.pick]
            repeat (go_big_quiet_step (fail))
            refine wpQuiet_nil (hK _ ?_)
            clear hK K
            refine MixH.takes [false, false, false, false, false, false, false, false, false, false, true] 14 (by kernel_rfl) (by kernel_rfl) (by decide) (by kernel_rfl) hS (fun K hK => ?_)
            simp only [Mix.pick]
            repeat (go_big_quiet_step (fail))
            refine wpQuiet_nil (hK _ ?_)
            clear hK K
            refine MixH.takes [false, false, false, false, false, false, false, false, false, false, false, true, true] 12 (by kernel_rfl) (by kernel_rfl) (by decide) (by kernel_rfl) hS (fun K hK => ?_)
            simp only [Mix.pick]
            repeat (go_big_quiet_step (fail))
            refine wpQuiet_nil (hK _ ?_)
            clear hK K
            refine MixH.takes [false, false, false, false, false, false, false, false, false, false, false, false, false, true] 11 (by kernel_rfl) (by kernel_rfl) (by decide) (by kernel_rfl) hS (fun K hK => ?_)
            simp only [Mix.pick]
            repeat (go_big_quiet_step (fail))
            refine wpQuiet_nil (hK _ ?_)
            clear hK K
            refine MixH.take 10 14 _ (undef) rfl (by kernel_rfl) (by kernel_rfl) (by kernel_rfl) (by kernel_rfl) (.inr ⟨rfl, rfl⟩) hS (fun a' ha => ?_)
            simp only [Act.put, List.setIfInBounds_toArray, List.set_cons_succ, List.set_cons_zero] at ha
            subst ha
            refine MixH.take 9 15 _ (undef) rfl (by kernel_rfl) (by kernel_rfl) (by kernel_rfl) (by kernel_rfl) (.inr ⟨rfl, rfl⟩) hS (fun a' ha => ?_)
            simp only [Act.put, List.setIfInBounds_toArray, List.set_cons_succ, List.set_cons_zero] at ha
            subst ha
            refine MixH.take 8 16 _ (undef) rfl (by kernel_rfl) (by kernel_rfl) (by kernel_rfl) (by kernel_rfl) (.inr ⟨rfl, rfl⟩) hS (fun a' ha => ?_)
            simp only [Act.put, List.setIfInBounds_toArray, List.set_cons_succ, List.set_cons_zero] at ha
            subst ha
            refine MixH.take 7 17 _ (undef) rfl (by kernel_rfl) (by kernel_rfl) (by kernel_rfl) (by kernel_rfl) (.inr ⟨rfl, rfl⟩) hS (fun a' ha => ?_)
            simp only [Act.put, List.setIfInBounds_toArray, List.set_cons_succ, List.set_cons_zero] at ha
            subst ha
            refine MixH.take 6 18 _ (undef) rfl (by kernel_rfl) (by kernel_rfl) (by kernel_rfl) (by kernel_rfl) (.inr ⟨rfl, rfl⟩) hS (fun a' ha => ?_)
            simp only [Act.put, List.setIfInBounds_toArray, List.set_cons_succ, List.set_cons_zero] at ha
            subst ha
            refine MixH.take 5 19 _ (undef) rfl (by kernel_rfl) (by kernel_rfl) (by kernel_rfl) (by kernel_rfl) (.inr ⟨rfl, rfl⟩) hS (fun a' ha => ?_)
            simp only [Act.put, List.setIfInBounds_toArray, List.set_cons_succ, List.set_cons_zero] at ha
            subst ha
            refine MixH.take 4 20 _ (undef) rfl (by kernel_rfl) (by kernel_rfl) (by kernel_rfl) (by kernel_rfl) (.inr ⟨rfl, rfl⟩) hS (fun a' ha => ?_)
            simp only [Act.put, List.setIfInBounds_toArray, List.set_cons_succ, List.set_cons_zero] at ha
            subst ha
            refine MixH.take 3 21 _ (undef) rfl (by kernel_rfl) (by kernel_rfl) (by kernel_rfl) (by kernel_rfl) (.inr ⟨rfl, rfl⟩) hS (fun a' ha => ?_)
            simp only [Act.put, List.setIfInBounds_toArray, List.set_cons_succ, List.set_cons_zero] at ha
            subst ha
            refine MixH.takes [false, false, false, false, false, false, false, false, false, false, false, false, false, false, false, false, false, false, false, false, false, false, true] 2 (by kernel_rfl) (by kernel_rfl) (by decide) (by kernel_rfl) hS (fun K hK => ?_)
            simp only [Mix.pick]
            repeat (go_big_quiet_step (fail))
            refine wpQuiet_nil (hK _ ?_)
            clear hK K
            refine MixH.takes [false, false, false, false, false, false, false, false, false, false, false, false, false, false, false, false, false, false, false, false, false, false, false, true] 1 (by kernel_rfl) (by kernel_rfl) (by decide) (by kernel_rfl) hS (fun K hK => ?_)
            simp only [Mix.pick]
            repeat (go_big_quiet_step (fail))
            refine wpQuiet_nil (hK _ ?_)
            clear hK K
            refine MixH.takes [false, false, false, false, false, false, false, false, false, false, false, false, false, false, false, false, false, false, false, false, false, false, false, false, true] 0 (by kernel_rfl) (by kernel_rfl) (by decide) (by kernel_rfl) hS (fun K hK => ?_)
            simp only [Mix.pick]
            repeat (go_big_quiet_step (fail))
            refine wpQuiet_nil (hK _ ?_)
            clear hK K
            refine MixH.done (by kernel_rfl) ?_
            clear hS
            have HME : Hid (m = ((L.take (i + 1)).filter (dA d E now)).length ∧ DU W t M d E w B base v (upto f L (i + 1)) ab av A wZ) := by
              refine ⟨by rw [HTK.out, List.filter_append, List.filter_cons, if_neg (by rw [HFB.out.2]; decide), List.filter_nil, List.append_nil]; exact HM.out, ?_⟩
              have h9 := upto_next f HBI.out.1
              rw [HFB.out.1] at h9
              have h8 := upto_at f HBI.out.1
              have h7 : (upto f L i).set i b = upto f L i := by
                obtain ⟨hl, he⟩ := List.getElem?_eq_some_iff.1 h8
                rw [← he, List.set_getElem_self]
              rw [← h9, h7]
              exact HZ.out
            clear HZ
            go_wp2_with fail
            go_meet
            exact ⟨_, rfl, HME⟩
      case rest =>
        obtain ⟨m2, rfl, HR⟩ := hcut
        clear HX
        go_wp2_with fail
        go_roundw
        case rel => exact ⟨i + 1, m2, rfl, by first | rfl | go_num, by have := HLT.out; omega, HR.out.1, HR.out.2⟩
        case measure => have := HLT.out; simp [intOf]; omega
    · have hni : ¬ ((i : Int) < (n : Int)) := by omega
      have HTK : Hid (L.take i = L) := List.take_of_length_le (by have := HN.out.1; omega)
      have HMA : Hid (m = an) := by show _ = _; rw [HM.out, HTK.out, HAN.out.1, HSI.out.1]
      have HE : Hid (LSt W t M d E wr ∧ BL wr base (.slice la n lc) (L.map f) ∧ Ch (fun q => (Value.slice la n lc).ownBlock = some q) w wr) := by
        have h9 := HX.out
        rw [HV.out.1] at h9
        refine ⟨h9.l, ?_, h9.ch⟩
        have e1 : upto f L i = L.map f := by unfold upto; rw [HTK.out, List.drop_of_length_le (by have := HN.out.1; omega), List.append_nil]
        rw [← e1]
        exact h9.b
      obtain rfl := HMA.out
      have qe : (((m : Nat) : Int) == ((m : Nat) : Int)) = true := by simp
      clear HX
      go_wp2_with fail
      go_ret
      exact ⟨rfl, HE.out⟩
end Go.Proofs.Ytialefdojeddjaa
