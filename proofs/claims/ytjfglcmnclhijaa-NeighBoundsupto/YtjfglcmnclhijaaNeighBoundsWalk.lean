/-
  NeighBounds: the walk.
-/
import Derived.Test.YtjfglcmnclhijaaNgLess
import Derived.Deep.CutBlock
namespace Go.Proofs.Ytjfglcmnclhijaa
open Go.RowKit Go.Maps

theorem LSt.back {W1 w x : World} {t M : Nat} {c : CF} {E : List EV} (h : LSt W1 t M c E x) (b : Below w.heap.size w W1) : LSt w t M c E x := ⟨h.ca, h.cf, h.ok, bthen b h.bel, fun q hq => Nat.le_trans b.size (h.out q hq)⟩
theorem NL.rng {A : World} {wb g n cap : Nat} {L : List NB} {j : Nat} {e : NB} (h : NL A wb (.slice (some ⟨g, 0, none⟩) n cap) L) (hr : L[j]? = some e) : A.rangeAt g (j * 28) (nbC e).toList := by
  obtain ⟨g', cap', hv, _, _, hrg⟩ := h.at j e hr
  simp only [Value.slice.injEq, Option.some.injEq, Addr.mk.injEq, and_true] at hv
  rw [hv.1]
  exact hrg
theorem nb_ip {A : World} {g o : Nat} {e : NB} (h : A.rangeAt g o (nbC e).toList) : A.rangeAt g (o + 1) (ipCells e.k.V e.k.x).toList := by
  intro i v hi
  have hl : i < 17 := (List.getElem?_eq_some_iff.1 hi).1
  have h2 : (nbC e).toList[1 + i]? = some v := by
    have := lt20' (show i < 20 by omega)
    rcases this with rfl | rfl | rfl | rfl | rfl | rfl | rfl | rfl | rfl | rfl | rfl | rfl | rfl | rfl | rfl | rfl | rfl | rfl | rfl | rfl
    all_goals first | exact hi | omega
  have := h (1 + i) v h2
  rwa [← Nat.add_assoc] at this
set_option maxHeartbeats 12800000 in
set_option maxRecDepth 100000 in
theorem neighBounds.walk (w : World) (c : CF) (a : Option Addr) (len cap : Nat) (ops : List OV) (hl : ops.length = len) (hs : ListG 27 ocL OpOk w a ops) (hn : len ≤ 1048576) : Calls Try.prog 3 #[.agg (cfC c), .slice a len cap] w fun e w' => e = .returned (.bool true) ∧ Below w.heap.size w w' := by
  have HS : Hid (ListG 27 ocL OpOk w a ops ∧ ops.length = len ∧ len ≤ 1048576) := ⟨hs, hl, hn⟩
  clear hs hl hn
  have hb := cfg_new w c
  have bel : Below w.heap.size w (w.alloc (.cells (cfC c) 23)) := (Below.refl _ _).alloc (Nat.le_refl _) _
  obtain ⟨CX, hC⟩ : ∃ C, C = cfC c := ⟨_, rfl⟩
  obtain ⟨W, hW⟩ : ∃ W, W = w.alloc (.cells (cfC c) 23) := ⟨_, rfl⟩
  rw [← hW] at hb bel
  obtain ⟨B, hB⟩ : ∃ B, B = w.heap.size := ⟨_, rfl⟩
  rw [← hB] at hb
  have HBX : Hid (CfgAt W B c) := hb
  rw [← hC] at hW ⊢
  have HOX : Hid (w.heap.size = B) := hB.symm
  have HLX : Hid (Below w.heap.size w W) := bel
  have HWX : Hid (w.alloc (.cells CX 23) = W) := hW.symm
  clear hb hW hB hC bel
  have QC : Hid _ := cache_any c W
  obtain ⟨d, hd⟩ : ∃ d, d = cfR c := ⟨_, rfl⟩
  rw [← hd] at QC
  clear hd
  go_enter Try.func3, Try.ntmps3
  go_upto_region 1 with fail
  rw [HOX.out, HWX.out]
  go_wp2_with (first | (refine wpList_load_cfg (.tmp 2) rfl B c rfl HBX.out rfl ?_))
  refine Calls.mono QC.out ?_
  rintro e w1 ⟨t, M, rfl, hL⟩
  have H1 : Hid (LSt w t M d [] w1 ∧ CfgAt w1 B c) := ⟨hL.back HLX.out, HBX.out.below hL.bel⟩
  clear hL QC HBX HWX HLX
  go_wp2_with (first | (refine wpList_store_cfg (.tmp 2) (.tmp 15) rfl rfl B c d rfl rfl H1.out.2 rfl ?_))
  intro w2 h2 k2
  have H2 : Hid (LSt w t M d [] w2 ∧ CfgAt w2 B d) := ⟨H1.out.1.ch k2 (fun q hq e => H1.out.2.not H1.out.1.ca (by rw [← (show q = B from e)]; exact hq)) (fun q e => by have e' : q = B := e; have := HOX.out; omega), h2⟩
  clear h2 k2 H1
  go_wp2_with fail
  refine Calls.mono (first_any H2.out.1) ?_
  rintro r w3 ⟨rfl, e3, _, hL, hch⟩
  have H3 : Hid (LSt w t M d [e3] w3 ∧ CfgAt w3 B d) := ⟨hL, H2.out.2.ch hch (H2.out.2.not H2.out.1.ca)⟩
  clear hL H2 hch
  go_wp2_with fail
  go_loopw [6] (fun ix wr => ∃ (i : Nat) (E : List EV), ix = .int .i64 i ∧ i ≤ len ∧ Hid (LSt w t M d E wr ∧ CfgAt wr B d)) (fun ix _ => len - (intOf ix).toNat)
  case atStart => exact ⟨0, [e3], rfl, by omega, H3⟩
  case round =>
    obtain ⟨i, E0, rfl, hi, ST⟩ := hrel
    clear H3
    by_cases hlt : i < len
    · have k0 : (0 : Int) ≤ (i : Int) := by omega
      have k1 : (i : Int) < (len : Int) := by omega
      have k2 : ((i : Int)).toNat = i := by omega
      have wi : IntKind.i64.wrap ((i : Int) + 1) = (i : Int) + 1 := by have := HS.out.2.2; rw [IntKind.wrap_i64]; omega
      obtain ⟨o, hok, g0, off, rfl, hrg⟩ := op_at HS.out.1 ST.out.1.bel i (by rw [HS.out.2.1]; exact hlt)
      have HRG : Hid (wr.rangeAt g0 (off + i * 27) (opC o).toList) := hrg
      have HLT : Hid (i < len) := hlt
      have HOK : Hid (OpOk o) := hok
      clear hrg hi hlt hok
      go_wp2_with (first | (refine wpList_mid_opv (.tmp 31) rfl g0 (off + i * 27) o rfl HRG.out rfl ?_) | (refine wpList_alloc_opv rfl rfl ?_) | (refine wpList_store_opv (.tmp 7) (.tmp 32) rfl rfl wr.heap.size oz o rfl rfl (opv_new wr oz) rfl ?_))
      intro x3 h1 kk1
      have b1 : Below wr.heap.size wr x3 := boxed_below kk1 (fun q e => by have e' : q = wr.heap.size := e; omega)
      obtain ⟨O7, hO7⟩ : ∃ O, O = wr.heap.size := ⟨_, rfl⟩
      rw [← hO7] at h1 ⊢
      obtain ⟨E, hE⟩ : ∃ E, E = E0 := ⟨_, rfl⟩
      subst hE
      have S3 : Hid (LSt w t M d E x3 ∧ OpvAt x3 O7 o ∧ CfgAt x3 B d) := ⟨ST.out.1.below b1, h1, ST.out.2.below b1⟩
      clear h1 kk1 b1 hO7 HRG ST
      obtain ⟨kd, hkd⟩ : ∃ kd, kd = o.kd := ⟨_, rfl⟩
      obtain ⟨pt, hpt⟩ : ∃ pt, pt = o.k.pt := ⟨_, rfl⟩
      obtain ⟨on, hon⟩ : ∃ on, on = o.n := ⟨_, rfl⟩
      have c0 : x3.cell? ⟨O7, 0, none⟩ = some (.int .i64 kd) := by rw [S3.out.2.1.cell 0, hkd]; rfl
      have c2 : x3.cell? ⟨O7, 2, none⟩ = some (.int .i64 pt) := by rw [S3.out.2.1.cell 2, hpt]; rfl
      have c26 : x3.cell? ⟨O7, 26, none⟩ = some (.int .i64 on) := by rw [S3.out.2.1.cell 26, hon]; rfl
      have HP : Hid (pt = o.k.pt ∧ on = o.n) := ⟨hpt, hon⟩
      clear hpt hon hkd
      go_upto_block 2 with fail
      clear c0
      go_cut [35] (fun _ wx => ∃ E', Hid (LSt w t M d E' wx ∧ CfgAt wx B d))
      case first =>
        by_cases h1 : kd = 1
        · have q1 : (kd == 1) = true := by simpa using h1
          have QW : Hid _ := S3.out.1.want o.k HOK.out.k on
          rw [← HP.out.1] at QW
          clear h1
          go_wp2_with (first | (refine wpList_mid_ipr (.tmp 40) rfl O7 3 o.k.V o.k.x rfl S3.out.2.1.ip rfl ?_))
          refine Calls.mono QW.out ?_
          rintro r x4 ⟨m, oc, er, E', rfl, _, hL, hch, _, _⟩
          have S4 : Hid (LSt w t M d E' x4 ∧ CfgAt x4 B d) := ⟨hL, S3.out.2.2.ch hch (S3.out.2.2.not S3.out.1.ca)⟩
          clear hL hch QW S3 c2 c26
          go_wp2_with fail
          go_meet
          exact ⟨E', S4⟩
        · have q1 : (kd == 1) = false := by simpa using h1
          by_cases h2 : kd = 2
          · have q2 : (kd == 2) = true := by simpa using h2
            have QL : Hid _ := S3.out.1.learn o.k HOK.out.k o.m HOK.out.m on
            rw [← HP.out.1] at QL
            clear h1 h2
            go_wp2_with (first | (refine wpList_mid_ipr (.tmp 50) rfl O7 3 o.k.V o.k.x rfl S3.out.2.1.ip rfl ?_) | (refine wpList_mid_mac (.tmp 52) rfl O7 20 o.m rfl S3.out.2.1.mac rfl ?_))
            refine Calls.mono QL.out ?_
            rintro r x4 ⟨lv, l, er, E', rfl, _, hL, hch, _, _, _⟩
            have S4 : Hid (LSt w t M d E' x4 ∧ CfgAt x4 B d) := ⟨hL, S3.out.2.2.ch hch (S3.out.2.2.not S3.out.1.ca)⟩
            clear hL hch QL S3 c2 c26
            go_wp2_with fail
            go_meet
            exact ⟨E', S4⟩
          · have q2 : (kd == 2) = false := by simpa using h2
            by_cases h3 : kd = 3
            · have q3 : (kd == 3) = true := by simpa using h3
              have QT : Hid _ := S3.out.1.tick
              clear h1 h2 h3
              go_wp2_with fail
              refine Calls.mono QT.out ?_
              rintro r x4 ⟨av, lv, Kd, rfl, _, _, _, _, hL, hch⟩
              have S4 : Hid (LSt w t M d (E.filterMap (tickE d)) x4 ∧ CfgAt x4 B d) := ⟨hL, S3.out.2.2.ch hch (S3.out.2.2.not S3.out.1.ca)⟩
              clear hL hch QT S3 c2 c26
              go_wp2_with fail
              go_meet
              exact ⟨E.filterMap (tickE d), S4⟩
            · have q3 : (kd == 3) = false := by simpa using h3
              have S4 : Hid (LSt w t M d E x3 ∧ CfgAt x3 B d) := ⟨S3.out.1, S3.out.2.2⟩
              clear h1 h2 h3 S3
              go_wp2_with fail
              go_meet
              exact ⟨E, S4⟩
      case rest =>
        obtain ⟨E, SC⟩ := hcut
        clear S3 c2 c26
        go_wp2_with fail
        refine Calls.mono SC.out.1.all ?_
        rintro r x5 ⟨v, S, rfl, hS, hN, hL, b5⟩
        obtain ⟨wb, hwb⟩ : ∃ wb, wb = wc.heap.size := ⟨_, rfl⟩
        rw [← hwb] at hN
        obtain ⟨va, vc, rfl⟩ := hN.form
        obtain ⟨nl, hnl⟩ : ∃ nl, nl = S.length := ⟨_, rfl⟩
        rw [List.length_map, ← hnl] at hN ⊢
        have HNL : Hid (S.length = nl ∧ nl ≤ 1024 ∧ (nl : Int) ≤ d.mx) := by
          have h1 := hS.1.length_eq
          have h2 := hL.ok.len hL.cf
          have h3 := hL.ok.1
          exact ⟨hnl.symm, by omega, by omega⟩
        have HSR : Hid (Srt E S) := hS
        have S5 : Hid (LSt w t M d E x5 ∧ CfgAt x5 B d ∧ NL x5 wb (.slice va nl vc) (S.map (fun e => e.n.nb))) := ⟨hL, SC.out.2.below b5, hN⟩
        clear hS hN hL b5 hwb hnl SC
        go_wp2_with fail
        go_loopw [9, 10] (fun nx jx wq => ∃ (z j : Nat), nx = .int .i64 (z : Int) ∧ jx = .int .i64 (j : Int) ∧ j ≤ nl ∧ Hid (LSt w t M d E wq ∧ CfgAt wq B d ∧ NL wq wb (.slice va nl vc) (S.map (fun e => e.n.nb))) ∧ Hid (z = waitN (S.take j))) (fun _ jx _ => nl - (intOf jx).toNat)
        case atStart => exact ⟨0, 0, rfl, rfl, by omega, S5, rfl⟩
        case round =>

          obtain ⟨z, j, rfl, rfl, hj, HQ, HZ⟩ := hrel
          clear S5
          by_cases hjl : j < nl
          · have kj0 : (0 : Int) ≤ (j : Int) := by omega
            have kj1 : (j : Int) < (nl : Int) := by omega
            have kj2 : ((j : Int)).toNat = j := by omega
            have wj : IntKind.i64.wrap ((j : Int) + 1) = (j : Int) + 1 := by have := HNL.out.2.1; rw [IntKind.wrap_i64]; omega
            have HJ : Hid (j < nl) := hjl
            obtain ⟨s, hs⟩ : ∃ s, S[j]? = some s := ⟨_, List.getElem?_eq_getElem (by rw [HNL.out.1]; exact hjl)⟩
            have hsE : s ∈ E := HSR.out.1.mem_iff.1 (List.mem_of_getElem? hs)
            have hok := HQ.out.1.ok.2 s hsE
            obtain ⟨e, he⟩ : ∃ e, e = s.n.nb := ⟨_, rfl⟩
            have hse : (S.map (fun e => e.n.nb))[j]? = some e := by rw [List.getElem?_map, hs, he]; rfl
            obtain ⟨g, cap', hvg, hx1, hx2, hx3⟩ := HQ.out.2.2.at j e hse
            simp only [Value.slice.injEq] at hvg
            obtain ⟨rfl, hx0, rfl⟩ := hvg
            clear hx0 hx1 hx2 hx3
            have hwt : e.wt = (s.n.ln.length : Int) := by rw [he]; rfl
            have HE : Hid ((S.map (fun e => e.n.nb))[j]? = some e ∧ e.k.Wf) := ⟨hse, by rw [he]; exact HQ.out.1.ca.wf s hsE⟩
            have q1 : decide (e.wt > d.li) = false := by have := hok.ln; rw [decide_eq_false_iff_not]; omega
            obtain ⟨bb, hbb⟩ : ∃ bb, decide (e.wt > 0) = bb := ⟨_, rfl⟩
            have q5 : (e.st == 1) = bb := by
              rw [← hbb, Bool.eq_iff_iff, beq_iff_eq, decide_eq_true_eq, show e.st = s.n.st from by rw [he]; rfl, hok.aw, hwt]
              cases s.n.ln with
              | nil => simp
              | cons a l => simp
            have q7 : (bb != bb) = false := by simp
            obtain ⟨z2, hz2⟩ : ∃ z2, z2 = waitN (S.take (j + 1)) := ⟨_, rfl⟩
            have HZ2 : Hid (z2 = waitN (S.take (j + 1))) := hz2
            have hzz : z2 = z + s.n.ln.length := by rw [hz2, HZ.out, List.take_add_one, hs]; exact waitN_snoc _ s
            have hzb : z2 ≤ 65536 := by
              have h1 : waitN (S.take (j + 1)) ≤ (S.take (j + 1)).length * 64 := waitN_le (E := E) (by
                have hd : Dj S := HSR.out.2.imp (fun h => lt3_ne h)
                exact hd.sublist (List.take_sublist _ _)) (fun s hs => HSR.out.1.mem_iff.1 (List.mem_of_mem_take hs)) 64 (HQ.out.1.ok.lns HQ.out.1.cf)
              have h2 : (S.take (j + 1)).length ≤ j + 1 := List.length_take_le _ _
              have h3 := HNL.out.2.1
              omega
            have wz : IntKind.i64.wrap ((z : Int) + e.wt) = (z2 : Int) := by rw [IntKind.wrap_i64, hwt]; omega
            by_cases hj0 : j = 0
            · have q2 : decide ((j : Int) > 0) = false := by rw [decide_eq_false_iff_not]; omega
              have q2b : decide (0 < j) = false := by rw [decide_eq_false_iff_not]; omega
              clear hs hsE hok he hse hwt hz2 hzz hzb hj0 hj
              go_upto_region 20 with fail
              refine MixH.start (fun A => NL A wb (.slice (some ⟨g, 0, none⟩) nl vc) (S.map (fun e => e.n.nb)) ∧ CfgAt A B d) (by kernel_rfl) ?_
              obtain ⟨wA, hwA⟩ : ∃ wA, wA = wr.drew := ⟨_, rfl⟩
              have bdr : Below wr.heap.size wr wA := by rw [hwA]; exact (Below.refl _ _).drew
              have hS : NL wA wb (.slice (some ⟨g, 0, none⟩) nl vc) (S.map (fun e => e.n.nb)) ∧ CfgAt wA B d := ⟨HQ.out.2.2.below bdr, HQ.out.2.1.below bdr⟩
              have SA : Hid (LSt w t M d E wA) := HQ.out.1.below bdr
              rw [← hwA]
              clear hwA bdr HQ
              refine MixH.takes [true, true, true, true] 49 (by kernel_rfl) (by kernel_rfl) (by decide) (by kernel_rfl) hS (fun K hK => ?_)
              simp only [Mix.pick]
              repeat (go_big_quiet_step (fail))
              refine wpQuiet_nil (hK _ ?_)
              clear hK K
              refine MixH.take 48 4 _ (.int .i64 e.wt) rfl (by kernel_rfl) (by kernel_rfl) (by kernel_rfl) (by kernel_rfl) (yields_int (.tmp 72) rfl ⟨g, j * 28 + 27, none⟩ (.int .i64 e.wt) rfl rfl (fun A hA => hA.1.rng HE.out.1 27 _ rfl)) hS (fun a' ha => ?_)
              simp only [Act.put, List.setIfInBounds_toArray, List.set_cons_succ, List.set_cons_zero] at ha
              subst ha
              refine MixH.takes [false, false, false, false, false, true] 47 (by kernel_rfl) (by kernel_rfl) (by decide) (by kernel_rfl) hS (fun K hK => ?_)
              simp only [Mix.pick]
              repeat (go_big_quiet_step (fail))
              refine wpQuiet_nil (hK _ ?_)
              clear hK K
              refine MixH.take 46 6 _ (.int .i64 d.li) rfl (by kernel_rfl) (by kernel_rfl) (by kernel_rfl) (by kernel_rfl) (yields_int (.tmp 74) rfl ⟨B, 1, none⟩ (.int .i64 d.li) rfl rfl (fun A hA => hA.2.cell 1)) hS (fun a' ha => ?_)
              simp only [Act.put, List.setIfInBounds_toArray, List.set_cons_succ, List.set_cons_zero] at ha
              subst ha
              refine MixH.takes [false, false, false, false, false, false, false, true, true] 44 (by kernel_rfl) (by kernel_rfl) (by decide) (by kernel_rfl) hS (fun K hK => ?_)
              simp only [Mix.pick]
              repeat (go_big_quiet_step (fail))
              refine wpQuiet_nil (hK _ ?_)
              clear hK K
              refine MixH.takes [false, false, false, false, false, false, false, false, false, true, true, true] 41 (by kernel_rfl) (by kernel_rfl) (by decide) (by kernel_rfl) hS (fun K hK => ?_)
              simp only [Mix.pick]
              repeat (go_big_quiet_step (fail))
              refine wpQuiet_nil (hK _ ?_)
              clear hK K
              refine MixH.take 40 12 _ (undef) rfl (by kernel_rfl) (by kernel_rfl) (by kernel_rfl) (by kernel_rfl) (.inr ⟨rfl, rfl⟩) hS (fun a' ha => ?_)
              simp only [Act.put, List.setIfInBounds_toArray, List.set_cons_succ, List.set_cons_zero] at ha
              subst ha
              refine MixH.take 39 13 _ (undef) rfl (by kernel_rfl) (by kernel_rfl) (by kernel_rfl) (by kernel_rfl) (.inr ⟨rfl, rfl⟩) hS (fun a' ha => ?_)
              simp only [Act.put, List.setIfInBounds_toArray, List.set_cons_succ, List.set_cons_zero] at ha
              subst ha
              refine MixH.take 38 14 _ (undef) rfl (by kernel_rfl) (by kernel_rfl) (by kernel_rfl) (by kernel_rfl) (.inr ⟨rfl, rfl⟩) hS (fun a' ha => ?_)
              simp only [Act.put, List.setIfInBounds_toArray, List.set_cons_succ, List.set_cons_zero] at ha
              subst ha
              refine MixH.take 37 15 _ (undef) rfl (by kernel_rfl) (by kernel_rfl) (by kernel_rfl) (by kernel_rfl) (.inr ⟨rfl, rfl⟩) hS (fun a' ha => ?_)
              simp only [Act.put, List.setIfInBounds_toArray, List.set_cons_succ, List.set_cons_zero] at ha
              subst ha
              refine MixH.take 36 16 _ (undef) rfl (by kernel_rfl) (by kernel_rfl) (by kernel_rfl) (by kernel_rfl) (.inr ⟨rfl, rfl⟩) hS (fun a' ha => ?_)
              simp only [Act.put, List.setIfInBounds_toArray, List.set_cons_succ, List.set_cons_zero] at ha
              subst ha
              refine MixH.take 35 17 _ (undef) rfl (by kernel_rfl) (by kernel_rfl) (by kernel_rfl) (by kernel_rfl) (.inr ⟨rfl, rfl⟩) hS (fun a' ha => ?_)
              simp only [Act.put, List.setIfInBounds_toArray, List.set_cons_succ, List.set_cons_zero] at ha
              subst ha
              refine MixH.take 34 18 _ (undef) rfl (by kernel_rfl) (by kernel_rfl) (by kernel_rfl) (by kernel_rfl) (.inr ⟨rfl, rfl⟩) hS (fun a' ha => ?_)
              simp only [Act.put, List.setIfInBounds_toArray, List.set_cons_succ, List.set_cons_zero] at ha
              subst ha
              refine MixH.take 33 19 _ (undef) rfl (by kernel_rfl) (by kernel_rfl) (by kernel_rfl) (by kernel_rfl) (.inr ⟨rfl, rfl⟩) hS (fun a' ha => ?_)
              simp only [Act.put, List.setIfInBounds_toArray, List.set_cons_succ, List.set_cons_zero] at ha
              subst ha
              refine MixH.take 32 20 _ (undef) rfl (by kernel_rfl) (by kernel_rfl) (by kernel_rfl) (by kernel_rfl) (.inr ⟨rfl, rfl⟩) hS (fun a' ha => ?_)
              simp only [Act.put, List.setIfInBounds_toArray, List.set_cons_succ, List.set_cons_zero] at ha
              subst ha
              refine MixH.take 31 21 _ (undef) rfl (by kernel_rfl) (by kernel_rfl) (by kernel_rfl) (by kernel_rfl) (.inr ⟨rfl, rfl⟩) hS (fun a' ha => ?_)
              simp only [Act.put, List.setIfInBounds_toArray, List.set_cons_succ, List.set_cons_zero] at ha
              subst ha
              refine MixH.take 30 22 _ (undef) rfl (by kernel_rfl) (by kernel_rfl) (by kernel_rfl) (by kernel_rfl) (.inr ⟨rfl, rfl⟩) hS (fun a' ha => ?_)
              simp only [Act.put, List.setIfInBounds_toArray, List.set_cons_succ, List.set_cons_zero] at ha
              subst ha
              refine MixH.take 29 23 _ (undef) rfl (by kernel_rfl) (by kernel_rfl) (by kernel_rfl) (by kernel_rfl) (.inr ⟨rfl, rfl⟩) hS (fun a' ha => ?_)
              simp only [Act.put, List.setIfInBounds_toArray, List.set_cons_succ, List.set_cons_zero] at ha
              subst ha
              refine MixH.take 28 24 _ (undef) rfl (by kernel_rfl) (by kernel_rfl) (by kernel_rfl) (by kernel_rfl) (.inr ⟨rfl, rfl⟩) hS (fun a' ha => ?_)
              simp only [Act.put, List.setIfInBounds_toArray, List.set_cons_succ, List.set_cons_zero] at ha
              subst ha
              refine MixH.take 27 25 _ (undef) rfl (by kernel_rfl) (by kernel_rfl) (by kernel_rfl) (by kernel_rfl) (.inr ⟨rfl, rfl⟩) hS (fun a' ha => ?_)
              simp only [Act.put, List.setIfInBounds_toArray, List.set_cons_succ, List.set_cons_zero] at ha
              subst ha
              refine MixH.take 26 26 _ (undef) rfl (by kernel_rfl) (by kernel_rfl) (by kernel_rfl) (by kernel_rfl) (.inr ⟨rfl, rfl⟩) hS (fun a' ha => ?_)
              simp only [Act.put, List.setIfInBounds_toArray, List.set_cons_succ, List.set_cons_zero] at ha
              subst ha
              refine MixH.take 25 27 _ (undef) rfl (by kernel_rfl) (by kernel_rfl) (by kernel_rfl) (by kernel_rfl) (.inr ⟨rfl, rfl⟩) hS (fun a' ha => ?_)
              simp only [Act.put, List.setIfInBounds_toArray, List.set_cons_succ, List.set_cons_zero] at ha
              subst ha
              refine MixH.take 24 28 _ (undef) rfl (by kernel_rfl) (by kernel_rfl) (by kernel_rfl) (by kernel_rfl) (.inr ⟨rfl, rfl⟩) hS (fun a' ha => ?_)
              simp only [Act.put, List.setIfInBounds_toArray, List.set_cons_succ, List.set_cons_zero] at ha
              subst ha
              refine MixH.take 23 29 _ (undef) rfl (by kernel_rfl) (by kernel_rfl) (by kernel_rfl) (by kernel_rfl) (.inr ⟨rfl, rfl⟩) hS (fun a' ha => ?_)
              simp only [Act.put, List.setIfInBounds_toArray, List.set_cons_succ, List.set_cons_zero] at ha
              subst ha
              refine MixH.take 22 30 _ (undef) rfl (by kernel_rfl) (by kernel_rfl) (by kernel_rfl) (by kernel_rfl) (.inr ⟨rfl, rfl⟩) hS (fun a' ha => ?_)
              simp only [Act.put, List.setIfInBounds_toArray, List.set_cons_succ, List.set_cons_zero] at ha
              subst ha
              refine MixH.take 21 31 _ (undef) rfl (by kernel_rfl) (by kernel_rfl) (by kernel_rfl) (by kernel_rfl) (.inr ⟨rfl, rfl⟩) hS (fun a' ha => ?_)
              simp only [Act.put, List.setIfInBounds_toArray, List.set_cons_succ, List.set_cons_zero] at ha
              subst ha
              refine MixH.take 20 32 _ (undef) rfl (by kernel_rfl) (by kernel_rfl) (by kernel_rfl) (by kernel_rfl) (.inr ⟨rfl, rfl⟩) hS (fun a' ha => ?_)
              simp only [Act.put, List.setIfInBounds_toArray, List.set_cons_succ, List.set_cons_zero] at ha
              subst ha
              refine MixH.take 19 33 _ (undef) rfl (by kernel_rfl) (by kernel_rfl) (by kernel_rfl) (by kernel_rfl) (.inr ⟨rfl, rfl⟩) hS (fun a' ha => ?_)
              simp only [Act.put, List.setIfInBounds_toArray, List.set_cons_succ, List.set_cons_zero] at ha
              subst ha
              refine MixH.take 18 34 _ (undef) rfl (by kernel_rfl) (by kernel_rfl) (by kernel_rfl) (by kernel_rfl) (.inr ⟨rfl, rfl⟩) hS (fun a' ha => ?_)
              simp only [Act.put, List.setIfInBounds_toArray, List.set_cons_succ, List.set_cons_zero] at ha
              subst ha
              refine MixH.take 17 35 _ (undef) rfl (by kernel_rfl) (by kernel_rfl) (by kernel_rfl) (by kernel_rfl) (.inr ⟨rfl, rfl⟩) hS (fun a' ha => ?_)
              simp only [Act.put, List.setIfInBounds_toArray, List.set_cons_succ, List.set_cons_zero] at ha
              subst ha
              refine MixH.takes [false, false, false, false, false, false, false, false, false, false, false, false, false, false, false, false, false, false, false, false, false, false, false, false, false, false, false, false, false, false, false, false, false, false, false, false, true, true, true] 14 (by kernel_rfl) (by kernel_rfl) (by decide) (by kernel_rfl) hS (fun K hK => ?_)
              simp only [Mix.pick]
              repeat (go_big_quiet_step (fail))
              refine wpQuiet_nil (hK _ ?_)
              clear hK K
              refine MixH.takes [false, false, false, false, false, false, false, false, false, false, false, false, false, false, false, false, false, false, false, false, false, false, false, false, false, false, false, false, false, false, false, false, false, false, false, false, false, false, false, true, true, true, true] 10 (by kernel_rfl) (by kernel_rfl) (by decide) (by kernel_rfl) hS (fun K hK => ?_)
              simp only [Mix.pick]
              repeat (go_big_quiet_step (fail))
              refine wpQuiet_nil (hK _ ?_)
              clear hK K
              refine MixH.take 9 43 _ (.int .i64 e.st) rfl (by kernel_rfl) (by kernel_rfl) (by kernel_rfl) (by kernel_rfl) (yields_int (.tmp 111) rfl ⟨g, j * 28 + 24, none⟩ (.int .i64 e.st) rfl rfl (fun A hA => hA.1.rng HE.out.1 24 _ rfl)) hS (fun a' ha => ?_)
              simp only [Act.put, List.setIfInBounds_toArray, List.set_cons_succ, List.set_cons_zero] at ha
              subst ha
              refine MixH.takes [false, false, false, false, false, false, false, false, false, false, false, false, false, false, false, false, false, false, false, false, false, false, false, false, false, false, false, false, false, false, false, false, false, false, false, false, false, false, false, false, false, false, false, false, true, true, true, true, true] 4 (by kernel_rfl) (by kernel_rfl) (by decide) (by kernel_rfl) hS (fun K hK => ?_)
              simp only [Mix.pick]
              repeat (go_big_quiet_step (fail))
              refine wpQuiet_nil (hK _ ?_)
              clear hK K
              refine MixH.take 3 49 _ (.int .i64 e.wt) rfl (by kernel_rfl) (by kernel_rfl) (by kernel_rfl) (by kernel_rfl) (yields_int (.tmp 117) rfl ⟨g, j * 28 + 27, none⟩ (.int .i64 e.wt) rfl rfl (fun A hA => hA.1.rng HE.out.1 27 _ rfl)) hS (fun a' ha => ?_)
              simp only [Act.put, List.setIfInBounds_toArray, List.set_cons_succ, List.set_cons_zero] at ha
              subst ha
              refine MixH.takes [false, false, false, false, false, false, false, false, false, false, false, false, false, false, false, false, false, false, false, false, false, false, false, false, false, false, false, false, false, false, false, false, false, false, false, false, false, false, false, false, false, false, false, false, false, false, false, false, false, false, true, true, true] 0 (by kernel_rfl) (by kernel_rfl) (by decide) (by kernel_rfl) hS (fun K hK => ?_)
              simp only [Mix.pick]
              repeat (go_big_quiet_step (fail))
              refine wpQuiet_nil (hK _ ?_)
              clear hK K
              refine MixH.done (by kernel_rfl) ?_
              have SE : Hid (LSt w t M d E wA ∧ CfgAt wA B d ∧ NL wA wb (.slice (some ⟨g, 0, none⟩) nl vc) (S.map (fun e => e.n.nb))) := ⟨SA.out, hS.2, hS.1⟩
              have cw : wA.cell? ⟨g, j * 28 + 27, none⟩ = some (.int .i64 e.wt) := hS.1.rng HE.out.1 27 _ rfl
              clear hS SA
              go_wp2
              go_roundw
              case rel => exact ⟨z2, j + 1, rfl, by first | rfl | go_num, by have := HJ.out; omega, SE, HZ2⟩
              case measure => have := HJ.out; simp [intOf]; omega
            · have q2 : decide ((j : Int) > 0) = true := by rw [decide_eq_true_eq]; omega
              have q2b : decide (0 < j) = true := by rw [decide_eq_true_eq]; omega
              obtain ⟨jp, hjp⟩ : ∃ jp, j = jp + 1 := ⟨j - 1, by omega⟩
              have ws : IntKind.i64.wrap ((j : Int) - 1) = (jp : Int) := by have := HNL.out.2.1; rw [IntKind.wrap_i64]; omega
              have kp0 : (0 : Int) ≤ (jp : Int) := by omega
              have kp1 : (jp : Int) < (nl : Int) := by omega
              have kp2 : ((jp : Int)).toNat = jp := by omega
              obtain ⟨u, hu⟩ : ∃ u, S[jp]? = some u := ⟨_, List.getElem?_eq_getElem (by rw [HNL.out.1]; omega)⟩
              obtain ⟨p, hp⟩ : ∃ p, p = u.n.nb := ⟨_, rfl⟩
              have HP2 : Hid ((S.map (fun e => e.n.nb))[jp]? = some p ∧ p.k.Wf ∧ lt3 p.k e.k) := by
                refine ⟨by rw [List.getElem?_map, hu, hp]; rfl, by rw [hp]; exact HQ.out.1.ca.wf u (HSR.out.1.mem_iff.1 (List.mem_of_getElem? hu)), ?_⟩
                obtain ⟨hu1, hu2⟩ := List.getElem?_eq_some_iff.1 hu
                obtain ⟨hs1, hs2⟩ := List.getElem?_eq_some_iff.1 hs
                have := List.pairwise_iff_getElem.1 HSR.out.2 jp j hu1 hs1 (by omega)
                rw [hu2, hs2] at this
                rw [hp, he]
                exact this
              clear hs hsE hok he hse hwt hz2 hzz hzb hj0 hj hu hp hjp
              go_upto_region 20 with fail
              refine MixH.start (fun A => NL A wb (.slice (some ⟨g, 0, none⟩) nl vc) (S.map (fun e => e.n.nb)) ∧ CfgAt A B d) (by kernel_rfl) ?_
              obtain ⟨wA, hwA⟩ : ∃ wA, wA = wr.drew := ⟨_, rfl⟩
              have bdr : Below wr.heap.size wr wA := by rw [hwA]; exact (Below.refl _ _).drew
              have hS : NL wA wb (.slice (some ⟨g, 0, none⟩) nl vc) (S.map (fun e => e.n.nb)) ∧ CfgAt wA B d := ⟨HQ.out.2.2.below bdr, HQ.out.2.1.below bdr⟩
              have SA : Hid (LSt w t M d E wA) := HQ.out.1.below bdr
              rw [← hwA]
              clear hwA bdr HQ
              refine MixH.takes [true, true, true, true] 49 (by kernel_rfl) (by kernel_rfl) (by decide) (by kernel_rfl) hS (fun K hK => ?_)
              simp only [Mix.pick]
              repeat (go_big_quiet_step (fail))
              refine wpQuiet_nil (hK _ ?_)
              clear hK K
              refine MixH.take 48 4 _ (.int .i64 e.wt) rfl (by kernel_rfl) (by kernel_rfl) (by kernel_rfl) (by kernel_rfl) (yields_int (.tmp 72) rfl ⟨g, j * 28 + 27, none⟩ (.int .i64 e.wt) rfl rfl (fun A hA => hA.1.rng HE.out.1 27 _ rfl)) hS (fun a' ha => ?_)
              simp only [Act.put, List.setIfInBounds_toArray, List.set_cons_succ, List.set_cons_zero] at ha
              subst ha
              refine MixH.takes [false, false, false, false, false, true] 47 (by kernel_rfl) (by kernel_rfl) (by decide) (by kernel_rfl) hS (fun K hK => ?_)
              simp only [Mix.pick]
              repeat (go_big_quiet_step (fail))
              refine wpQuiet_nil (hK _ ?_)
              clear hK K
              refine MixH.take 46 6 _ (.int .i64 d.li) rfl (by kernel_rfl) (by kernel_rfl) (by kernel_rfl) (by kernel_rfl) (yields_int (.tmp 74) rfl ⟨B, 1, none⟩ (.int .i64 d.li) rfl rfl (fun A hA => hA.2.cell 1)) hS (fun a' ha => ?_)
              simp only [Act.put, List.setIfInBounds_toArray, List.set_cons_succ, List.set_cons_zero] at ha
              subst ha
              refine MixH.takes [false, false, false, false, false, false, false, true, true] 44 (by kernel_rfl) (by kernel_rfl) (by decide) (by kernel_rfl) hS (fun K hK => ?_)
              simp only [Mix.pick]
              repeat (go_big_quiet_step (fail))
              refine wpQuiet_nil (hK _ ?_)
              clear hK K
              refine MixH.takes [false, false, false, false, false, false, false, false, false, true, true, true] 41 (by kernel_rfl) (by kernel_rfl) (by decide) (by kernel_rfl) hS (fun K hK => ?_)
              simp only [Mix.pick]
              repeat (go_big_quiet_step (fail))
              refine wpQuiet_nil (hK _ ?_)
              clear hK K
              refine MixH.takes [false, false, false, false, false, false, false, false, false, false, false, false, true, true, true, true, true] 36 (by kernel_rfl) (by kernel_rfl) (by decide) (by kernel_rfl) hS (fun K hK => ?_)
              simp only [Mix.pick]
              repeat (go_big_quiet_step (fail))
              refine wpQuiet_nil (hK _ ?_)
              clear hK K
              refine MixH.take 35 17 _ (.int .i64 p.k.pt) rfl (by kernel_rfl) (by kernel_rfl) (by kernel_rfl) (by kernel_rfl) (yields_int (.tmp 85) rfl ⟨g, jp * 28, none⟩ (.int .i64 p.k.pt) rfl rfl (fun A hA => hA.1.rng HP2.out.1 0 _ rfl)) hS (fun a' ha => ?_)
              simp only [Act.put, List.setIfInBounds_toArray, List.set_cons_succ, List.set_cons_zero] at ha
              subst ha
              refine MixH.takes [false, false, false, false, false, false, false, false, false, false, false, false, false, false, false, false, false, false, true, true, true, true, true] 30 (by kernel_rfl) (by kernel_rfl) (by decide) (by kernel_rfl) hS (fun K hK => ?_)
              simp only [Mix.pick]
              repeat (go_big_quiet_step (fail))
              refine wpQuiet_nil (hK _ ?_)
              clear hK K
              refine MixH.take 29 23 _ (.agg (ipCells p.k.V p.k.x)) rfl (by kernel_rfl) (by kernel_rfl) (by kernel_rfl) (by kernel_rfl) (yields_ipr (.tmp 91) rfl g (jp * 28 + 1) p.k.V p.k.x rfl rfl (fun A hA => nb_ip (hA.1.rng HP2.out.1))) hS (fun a' ha => ?_)
              simp only [Act.put, List.setIfInBounds_toArray, List.set_cons_succ, List.set_cons_zero] at ha
              subst ha
              refine MixH.takes [false, false, false, false, false, false, false, false, false, false, false, false, false, false, false, false, false, false, false, false, false, false, false, false, true, true, true, true] 25 (by kernel_rfl) (by kernel_rfl) (by decide) (by kernel_rfl) hS (fun K hK => ?_)
              simp only [Mix.pick]
              repeat (go_big_quiet_step (fail))
              refine wpQuiet_nil (hK _ ?_)
              clear hK K
              refine MixH.take 24 28 _ (.int .i64 e.k.pt) rfl (by kernel_rfl) (by kernel_rfl) (by kernel_rfl) (by kernel_rfl) (yields_int (.tmp 96) rfl ⟨g, j * 28, none⟩ (.int .i64 e.k.pt) rfl rfl (fun A hA => hA.1.rng HE.out.1 0 _ rfl)) hS (fun a' ha => ?_)
              simp only [Act.put, List.setIfInBounds_toArray, List.set_cons_succ, List.set_cons_zero] at ha
              subst ha
              refine MixH.takes [false, false, false, false, false, false, false, false, false, false, false, false, false, false, false, false, false, false, false, false, false, false, false, false, false, false, false, false, false, true, true, true, true] 20 (by kernel_rfl) (by kernel_rfl) (by decide) (by kernel_rfl) hS (fun K hK => ?_)
              simp only [Mix.pick]
              repeat (go_big_quiet_step (fail))
              refine wpQuiet_nil (hK _ ?_)
              clear hK K
              refine MixH.take 19 33 _ (.agg (ipCells e.k.V e.k.x)) rfl (by kernel_rfl) (by kernel_rfl) (by kernel_rfl) (by kernel_rfl) (yields_ipr (.tmp 101) rfl g (j * 28 + 1) e.k.V e.k.x rfl rfl (fun A hA => nb_ip (hA.1.rng HE.out.1))) hS (fun a' ha => ?_)
              simp only [Act.put, List.setIfInBounds_toArray, List.set_cons_succ, List.set_cons_zero] at ha
              subst ha
              refine MixH.one [false, false, false, false, false, false, false, false, false, false, false, false, false, false, false, false, false, false, false, false, false, false, false, false, false, false, false, false, false, false, false, false, false, false, true] 18 34 _ rfl rfl (by kernel_rfl) (by kernel_rfl) (fun K hK => ?_)
              simp only [Mix.pick]
              go_wp2_with fail
              refine Calls.mono (less_any p.k e.k HP2.out.2.1 HE.out.2 wA) ?_
              rintro r0 wB ⟨bb, rfl, hbb, bB⟩
              obtain rfl : bb = true := hbb.2 HP2.out.2.2
              replace hS : NL wB wb (.slice (some ⟨g, 0, none⟩) nl vc) (S.map (fun e => e.n.nb)) ∧ CfgAt wB B d := ⟨hS.1.below bB, hS.2.below bB⟩
              have SA2 : Hid (LSt w t M d E wB) := SA.out.below bB
              clear bB hbb SA
              go_wp2_with fail
              refine ⟨rfl, hK _ _ hS ?_⟩
              clear hK K
              refine MixH.takes [false, false, false, false, false, false, false, false, false, false, false, false, false, false, false, false, false, false, false, false, false, false, false, false, false, false, false, false, false, false, false, false, false, false, false, true, true, true, true] 14 (by kernel_rfl) (by kernel_rfl) (by decide) (by kernel_rfl) hS (fun K hK => ?_)
              simp only [Mix.pick]
              repeat (go_big_quiet_step (fail))
              refine wpQuiet_nil (hK _ ?_)
              clear hK K
              refine MixH.takes [false, false, false, false, false, false, false, false, false, false, false, false, false, false, false, false, false, false, false, false, false, false, false, false, false, false, false, false, false, false, false, false, false, false, false, false, false, false, false, true, true, true, true] 10 (by kernel_rfl) (by kernel_rfl) (by decide) (by kernel_rfl) hS (fun K hK => ?_)
              simp only [Mix.pick]
              repeat (go_big_quiet_step (fail))
              refine wpQuiet_nil (hK _ ?_)
              clear hK K
              refine MixH.take 9 43 _ (.int .i64 e.st) rfl (by kernel_rfl) (by kernel_rfl) (by kernel_rfl) (by kernel_rfl) (yields_int (.tmp 111) rfl ⟨g, j * 28 + 24, none⟩ (.int .i64 e.st) rfl rfl (fun A hA => hA.1.rng HE.out.1 24 _ rfl)) hS (fun a' ha => ?_)
              simp only [Act.put, List.setIfInBounds_toArray, List.set_cons_succ, List.set_cons_zero] at ha
              subst ha
              refine MixH.takes [false, false, false, false, false, false, false, false, false, false, false, false, false, false, false, false, false, false, false, false, false, false, false, false, false, false, false, false, false, false, false, false, false, false, false, false, false, false, false, false, false, false, false, false, true, true, true, true, true] 4 (by kernel_rfl) (by kernel_rfl) (by decide) (by kernel_rfl) hS (fun K hK => ?_)
              simp only [Mix.pick]
              repeat (go_big_quiet_step (fail))
              refine wpQuiet_nil (hK _ ?_)
              clear hK K
              refine MixH.take 3 49 _ (.int .i64 e.wt) rfl (by kernel_rfl) (by kernel_rfl) (by kernel_rfl) (by kernel_rfl) (yields_int (.tmp 117) rfl ⟨g, j * 28 + 27, none⟩ (.int .i64 e.wt) rfl rfl (fun A hA => hA.1.rng HE.out.1 27 _ rfl)) hS (fun a' ha => ?_)
              simp only [Act.put, List.setIfInBounds_toArray, List.set_cons_succ, List.set_cons_zero] at ha
              subst ha
              refine MixH.takes [false, false, false, false, false, false, false, false, false, false, false, false, false, false, false, false, false, false, false, false, false, false, false, false, false, false, false, false, false, false, false, false, false, false, false, false, false, false, false, false, false, false, false, false, false, false, false, false, false, false, true, true, true] 0 (by kernel_rfl) (by kernel_rfl) (by decide) (by kernel_rfl) hS (fun K hK => ?_)
              simp only [Mix.pick]
              repeat (go_big_quiet_step (fail))
              refine wpQuiet_nil (hK _ ?_)
              clear hK K
              refine MixH.done (by kernel_rfl) ?_
              have SE : Hid (LSt w t M d E wB ∧ CfgAt wB B d ∧ NL wB wb (.slice (some ⟨g, 0, none⟩) nl vc) (S.map (fun e => e.n.nb))) := ⟨SA2.out, hS.2, hS.1⟩
              have cw : wB.cell? ⟨g, j * 28 + 27, none⟩ = some (.int .i64 e.wt) := hS.1.rng HE.out.1 27 _ rfl
              clear hS SA2
              go_wp2
              go_roundw
              case rel => exact ⟨z2, j + 1, rfl, by first | rfl | go_num, by have := HJ.out; omega, SE, HZ2⟩
              case measure => have := HJ.out; simp [intOf]; omega
          · have hni : ¬ ((j : Int) < (nl : Int)) := by omega
            have hjn : j = nl := by omega
            have hzE : z = waitN E := by
              rw [HZ.out, List.take_of_length_le (by rw [HNL.out.1]; omega)]
              exact waitN_perm HSR.out.1
            have QV : Hid _ := HQ.out.1.waiting
            rw [← hzE] at QV
            have cM : wr.cell? ⟨B, 0, none⟩ = some (.int .i64 d.mx) := HQ.out.2.1.cell 0
            have qm : decide ((nl : Int) > d.mx) = false := by have := HNL.out.2.2; rw [decide_eq_false_iff_not]; omega
            have qz : ((z : Int) != (z : Int)) = false := by simp
            clear hzE hjn hj hjl
            go_wp2_with fail
            refine Calls.mono QV.out ?_
            rintro r x6 ⟨rfl, hL, b6⟩
            have SF : Hid (LSt w t M d E x6 ∧ CfgAt x6 B d) := ⟨hL, HQ.out.2.1.below b6⟩
            clear hL b6 QV cM HQ
            go_wp2_with fail
            go_roundw
            case rel => exact ⟨i + 1, E, by first | rfl | go_num, by have := HLT.out; omega, SF⟩
            case measure => have := HLT.out; simp [intOf]; omega
    · have hni : ¬ ((i : Int) < (len : Int)) := by omega
      go_wp2_with fail
      go_ret
      exact ⟨rfl, ST.out.1.bel⟩
end Go.Proofs.Ytjfglcmnclhijaa
