/-
  The walk of HoleParts.
-/
import Derived.Test.YthlnmonmbldcdaaHEq
import Derived.Deep.DeepCutAuto
import Derived.Test.YthlnmonmbldcdaaRows
namespace Go.Proofs.Ythlnmonmbldcdaa
open Go.RowKit Go.Maps H11

set_option maxRecDepth 100000 in
set_option maxHeartbeats 25600000 in
theorem holeParts.walk (W : World) (a0 : Int) (_ : (Lit.int .i64 a0).wf = true) (a : Option Addr) (len cap : Nat) (ops : List PcV) (hl : ops.length = len) (hs : PcsU W a ops) (_ : len ≤ 1048576) :
    Calls Try.prog 4 #[.int .i64 a0, .slice a len cap] W fun e W' => e = .returned (.bool true) ∧ Below W.heap.size W W' := by
  obtain ⟨m, hm, hm1, hm2⟩ : ∃ m : Nat, (m : Int) = (if a0 < 8 ∨ 65535 < a0 then 64 else a0) ∧ 1 ≤ m ∧ m ≤ 65535 := by
    by_cases h : a0 < 8 ∨ 65535 < a0
    · exact ⟨64, by rw [if_pos h]; rfl, by omega, by omega⟩
    · exact ⟨a0.toNat, by rw [if_neg h]; omega, by omega, by omega⟩
  have QN : Hid _ := new_yes W m hm1 hm2
  have HPS : Hid (PcsU W a ops) := hs
  have HLN : Hid (ops.length = len) := hl
  have HM : Hid (1 ≤ m ∧ m ≤ 65535) := ⟨hm1, hm2⟩
  clear hl hs hm1 hm2
  go_enter Try.func4, Try.ntmps4
  go_upto_region 1 with fail
  go_cut [19] (fun x wx => x = .bool (decide (a0 < 8 ∨ 65535 < a0)) ∧ W = wx)
  case first =>
    by_cases h1 : a0 < 8
    · have HD : Hid (decide (a0 < 8 ∨ 65535 < a0) = true) := decide_eq_true (.inl h1)
      go_wp2
      go_meet
      exact ⟨by rw [HD.out], rfl⟩
    · by_cases h2 : (65535 : Int) < a0
      · have HD : Hid (decide (a0 < 8 ∨ 65535 < a0) = true) := decide_eq_true (.inr h2)
        go_wp2
        go_meet
        exact ⟨by rw [HD.out], rfl⟩
      · have HD : Hid (decide (a0 < 8 ∨ 65535 < a0) = false) := decide_eq_false (by omega)
        go_wp2
        go_meet
        exact ⟨by rw [HD.out], rfl⟩
  case rest =>
    obtain ⟨rfl, rfl⟩ := hcut
    go_upto_if 19 with fail
    go_cut [0] (fun x wx => x = .int .i64 (m : Int) ∧ W = wx)
    case first =>
      by_cases h0 : a0 < 8 ∨ 65535 < a0
      · rw [if_pos h0] at hm
        rw [decide_eq_true h0]
        have HM4 : Hid ((m : Int) = 64) := hm
        clear hm h0
        go_wp2
        go_meet
        exact ⟨by rw [HM4.out], rfl⟩
      · rw [if_neg h0] at hm
        rw [decide_eq_false h0]
        have HM4 : Hid ((m : Int) = a0) := hm
        clear h0 hm
        go_wp2
        go_meet
        exact ⟨by rw [HM4.out], rfl⟩
    case rest =>
      obtain ⟨rfl, rfl⟩ := hcut
      clear hm
      go_wp2_with fail
      refine Calls.mono QN.out ?_
      rintro e w1 ⟨H, v, rfl, hat1, hlo1, hb1⟩
      have HO1 : Hid (Own1 W H m 0 (nw m) v w1) := ⟨hat1, nw_inv m HM.out.1 HM.out.2, rfl, by simp [nw], hlo1, hb1⟩
      clear QN hat1 hlo1 hb1
      have QG : Hid (∀ A : World, HAt A H (nw m) v → Calls Try.prog 17 #[.pointer (some ⟨H, 0, none⟩)] A fun r w' => ∃ g c, r = .returned (.slice (some ⟨g, 0, none⟩) 1 c) ∧ 1 ≤ c ∧ w'.cell? ⟨g, 0, none⟩ = some (.int .i64 0) ∧ w'.cell? ⟨g, 1, none⟩ = some (.int .i64 (m : Int)) ∧ Below A.heap.size A w') := by
        intro A hA
        refine (gaps_any A H (nw m) v hA (by simp [nw])).mono ?_
        rintro e w' ⟨u, rfl, h1, h2⟩
        obtain ⟨ga, gc, rfl⟩ := owns_shape h1
        obtain ⟨g, rfl, _, h4, h5⟩ := row_gap h1 rfl (by simp [nw])
        have h6 := h5 0 (by simp [nw])
        exact ⟨g, gc, rfl, by simpa [nw] using h4, by simpa [nw] using h6.1, by simpa [nw] using h6.2, h2⟩
      go_wp2_with fail
      refine Calls.mono (QG.out _ HO1.out.hat) ?_
      rintro e w2 ⟨g2, c2, rfl, hc2, _, _, hb2⟩
      have HO2 : Hid (Own1 W H m 0 (nw m) v w2) := HO1.out.below hb2
      clear hb2 HO1
      go_wp2_with fail
      refine Calls.mono (QG.out _ HO2.out.hat) ?_
      rintro e w3 ⟨g3, c3, rfl, hc3, x3, y3, hb3⟩
      have HO3 : Hid (Own1 W H m 0 (nw m) v w3) := HO2.out.below hb3
      clear hb3 HO2 QG
      go_wp2_with (first | (refine wpList_neq_gap (.tmp 41) (.tmp 43) rfl 0 (m : Int) 0 (m : Int) rfl rfl rfl ?_))
      go_loopw [7] (fun ix wr => ∃ (k : Nat) (s : HS) (v : HV), k ≤ len ∧ ix = .int .i64 k ∧ Hid (Own1 W H m k s v wr)) (fun ix _ => len - (intOf ix).toNat)
      case atStart => exact ⟨0, nw m, v, Nat.zero_le _, rfl, HO3⟩
      case round =>
        obtain ⟨k, s, v, hk, rfl, HOw⟩ := hrel
        clear HO3 x3 y3
        by_cases hge : len ≤ k ∨ 120 ≤ k
        · have HBE := HOw.out.bel
          by_cases h1 : len ≤ k
          · have d1 : ¬ (k : Int) < (len : Int) := by omega
            clear hge h1
            go_wp2
            go_ret
            exact ⟨rfl, HBE⟩
          · have d1 : (k : Int) < (len : Int) := by omega
            have d2 : ¬ (k : Int) < 120 := by omega
            clear hge h1
            go_wp2
            go_ret
            exact ⟨rfl, HBE⟩
        · have hkl : k < len := by omega
          have hk2 : k < 120 := by omega
          have d1 : (k : Int) < (len : Int) := by omega
          have d2 : (k : Int) < 120 := by omega
          have hkx : k < ops.length := by rw [HLN.out]; exact hkl
          obtain ⟨pb, po, rfl, hpb, hok, hc0, hc1, hc2⟩ := pcs_at HPS.out k hkx
          obtain ⟨q, hq⟩ : ∃ q, q = ops[k]'hkx := ⟨_, rfl⟩
          rw [← hq] at hok hc0 hc1 hc2
          obtain ⟨off, qa, qc, qs, more⟩ := q
          simp only at hc0 hc1 hc2
          obtain ⟨qn, hqn⟩ : ∃ qn, qn = qs.length := ⟨_, rfl⟩
          rw [← hqn] at hc1
          have HC0 : Hid _ := hc0
          have HC1 : Hid _ := hc1
          have HC2 : Hid _ := hc2
          have HQN : Hid (qs.length = qn) := hqn.symm
          have HQC : Hid (qn ≤ qc) := by rw [hqn]; exact hok.le
          have HQS : Hid (Seg .u8 W qa (toI qs)) := hok.seg
          have HQ8 : Hid (∀ x ∈ qs, x < 256) := hok.b8
          have HK120 : Hid (k ≤ 1000) := by show k ≤ 1000; omega
          clear hge hok hc0 hc1 hc2 hq hqn hkx
          go_upto_region 9 with fail
          refine MixH.start (fun A => Below W.heap.size W A) (by kernel_rfl) ?_
          obtain ⟨wA, hwA⟩ : ∃ wA, wA = wr.drew := ⟨_, rfl⟩
          replace HOw : Hid (Own1 W H m k s v wA) := by rw [hwA]; exact HOw.out.below (drew_below (Below.refl _ _))
          have hS : Below W.heap.size W wA := HOw.out.bel
          rw [← hwA]
          clear hwA
          refine MixH.takes [true, true, true, true, true, false, true, true, true, true, false, false, true, true, true, true] 5 (by kernel_rfl) (by kernel_rfl) (by decide) (by kernel_rfl) hS (fun K hK => ?_)
          simp only [Mix.pick]
          repeat (go_big_quiet_step (fail))
          refine wpQuiet_nil (hK _ ?_)
          clear hK K
          refine MixH.take 4 5 _ (.int .i64 off) rfl (by kernel_rfl) (by kernel_rfl) (by kernel_rfl) (by kernel_rfl) (yields_int (.tmp 60) rfl ⟨pb, po + k * 3, none⟩ _ rfl rfl (fun A hA => (World.cell?_of_block (hA.block pb hpb)).trans HC0.out)) hS (fun a' ha => ?_)
          simp only [Act.put, List.setIfInBounds_toArray, List.set_cons_succ, List.set_cons_zero] at ha
          subst ha
          refine MixH.take 3 10 _ (.slice qa qn qc) rfl (by kernel_rfl) (by kernel_rfl) (by kernel_rfl) (by kernel_rfl) (yields_bytes (.tmp 65) rfl ⟨pb, po + k * 3 + 1, none⟩ _ rfl rfl (fun A hA => (World.cell?_of_block (hA.block pb hpb)).trans HC1.out)) hS (fun a' ha => ?_)
          simp only [Act.put, List.setIfInBounds_toArray, List.set_cons_succ, List.set_cons_zero] at ha
          subst ha
          refine MixH.take 2 16 _ (.bool more) rfl (by kernel_rfl) (by kernel_rfl) (by kernel_rfl) (by kernel_rfl) (yields_bool (.tmp 71) rfl ⟨pb, po + k * 3 + 2, none⟩ _ rfl rfl (fun A hA => (World.cell?_of_block (hA.block pb hpb)).trans HC2.out)) hS (fun a' ha => ?_)
          simp only [Act.put, List.setIfInBounds_toArray, List.set_cons_succ, List.set_cons_zero] at ha
          subst ha
          refine MixH.one [false, false, false, false, false, false, false, false, false, false, false, true] 1 11 _ rfl rfl (by kernel_rfl) (by kernel_rfl) (fun K hK => ?_)
          simp only [Mix.pick]
          have QC := cut_any wA qa qn qc qs HQN.out HQC.out (HQS.out.old hS)
          go_wp2_with fail
          refine Calls.mono QC ?_
          rintro e wB ⟨ua, uc, rfl, hoB, hbB⟩
          obtain ⟨n, hn⟩ : ∃ n, n = (qs.take 4096).length := ⟨_, rfl⟩
          have HOB : Hid (wB.ownsRow wA.heap.size 5 1 (.slice ua (qs.take 4096).length uc) (qs.take 4096).length ((toI (qs.take 4096)).map (Value.int .u8))) := hoB
          rw [← hn]
          have HNN : Hid (n = (qs.take 4096).length) := hn
          have HOwB : Hid (Own1 W H m k s v wB) := HOw.out.below hbB
          have HSZ : Hid (∀ x, HB H v x → x < wA.heap.size) := HOw.out.hat.lt
          replace hS : Below W.heap.size W wB := HOwB.out.bel
          clear QC hn hoB hbB HOw
          go_wp2
          refine ⟨rfl, hK _ _ hS ?_⟩
          clear hK K
          refine MixH.one [false, false, false, false, false, false, false, false, false, false, false, false, false, false, false, false, false, true] 0 17 _ rfl rfl (by kernel_rfl) (by kernel_rfl) (fun K hK => ?_)
          simp only [Mix.pick]
          have QP : Hid (Calls Try.prog 13 #[.pointer (some ⟨H, 0, none⟩), .int .i64 off, .slice ua n uc, .bool more] wB fun r w' => r = .returned (.tuple #[.agg #[.int .i64 (pN s off (qs.take 4096) more : Nat), .int .i64 (pO s off (qs.take 4096) more), .bool (pM s off (qs.take 4096) more)], .int .i64 (rf s off (qs.take 4096).length more)]) ∧ Ch (HB H v) wB w' ∧ ∃ v', Own1 W H m (k + 1) (pS s off (qs.take 4096) more) v' w') := by
            rw [HNN.out]
            refine HOwB.out.put HK120.out off (qs.take 4096) ua uc more (fun x hx => HQ8.out x (List.mem_of_mem_take hx)) (owns_mono HOB.out (Nat.zero_le _)) ?_
            intro q hq k
            have h1 := (HOB.out.lt q hq).1
            have h2 := HSZ.out q k
            omega
          go_wp2_with fail
          refine Calls.mono QP.out ?_
          rintro e wC ⟨rfl, _, v', hv'⟩
          obtain ⟨s', hs'⟩ : ∃ s', s' = pS s off (qs.take 4096) more := ⟨_, rfl⟩
          rw [← hs'] at hv'
          have HOC : Hid (Own1 W H m (k + 1) s' v' wC) := hv'
          replace hS : Below W.heap.size W wC := HOC.out.bel
          clear QP hv' hs' HOwB HOB HSZ
          go_wp2
          refine ⟨rfl, hK _ _ hS ?_⟩
          clear hK K
          refine MixH.done (by kernel_rfl) ?_
          clear hS HC0 HC1 HC2 HQN HQC HQS HQ8 HK120 hpb HNN
          have QT := total_any wC H s' v' HOC.out.hat
          go_wp2_with fail
          refine Calls.mono QT ?_
          rintro e wD ⟨rfl, hbD⟩
          have HOD : Hid (Own1 W H m (k + 1) s' v' wD) := HOC.out.below hbD
          clear QT hbD HOC
          obtain ⟨bd, hbd⟩ : ∃ bd, bd = s'.bd := ⟨_, rfl⟩
          have hbd5 : bd ≤ 65535 := by rw [hbd]; exact (HS.bd_le HOD.out.inv).1
          have HRI : Hid (Ris 0 s'.gp bd ∧ bd ≤ 65535) := ⟨by rw [hbd]; exact HOD.out.inv.ris, hbd5⟩
          obtain ⟨Z, hZ⟩ : ∃ Z, Z = sm s'.gp := ⟨_, rfl⟩
          have HZ : Hid (Z = sm s'.gp) := hZ
          have HZB : Hid (Z ≤ bd) := by have := HRI.out.1.sum; rw [hZ]; exact Nat.le_trans this (Nat.sub_le _ _)
          obtain ⟨G, hG⟩ : ∃ G, G = s'.gp.length := ⟨_, rfl⟩
          have HG : Hid (G = s'.gp.length) := hG
          have hG5 : G ≤ 65535 := by have := HRI.out.1.len; rw [hG]; omega
          have QG : Hid (∀ A : World, HAt A H s' v' → Calls Try.prog 17 #[.pointer (some ⟨H, 0, none⟩)] A fun r w' => ∃ ga gc, r = .returned (.slice ga G gc) ∧ w'.ownsRow A.heap.size 45 2 (.slice ga G gc) G (gC s'.gp) ∧ Below A.heap.size A w') := by
            intro A hA
            refine (gaps_any A H s' v' hA (by rw [← hG]; exact hG5)).mono ?_
            rintro e w' ⟨u, rfl, h1, h2⟩
            obtain ⟨ga, gc, rfl⟩ := owns_shape h1
            rw [← hG] at h1 ⊢
            exact ⟨ga, gc, rfl, h1, h2⟩
          have QH : Hid (∀ A : World, HAt A H s' v' → Calls Try.prog 19 #[.pointer (some ⟨H, 0, none⟩)] A fun r w' => r = .returned (.int .i64 ((bd : Int) - (Z : Int))) ∧ Below A.heap.size A w') := by
            intro A hA
            rw [hbd, hZ]
            exact held_any A H s' v' hA HOD.out.inv
          have HMX : Hid (s'.mx = m) := HOD.out.mx
          obtain ⟨KN, hKN⟩ : ∃ KN, KN = decide (0 < s'.en) := ⟨_, rfl⟩
          have HWV : Hid (decide (0 < s'.en ∧ s'.gp = []) = (KN && decide (G = 0))) := by
            show _ = _
            rw [hKN, ← Bool.decide_and]
            congr 1
            rw [hG]
            exact propext ⟨fun k => ⟨k.1, by rw [k.2]; rfl⟩, fun k => ⟨k.1, List.eq_nil_of_length_eq_zero k.2⟩⟩
          have HBD : Hid ((KN = true → (s'.en : Int) = (bd : Int)) ∧ (KN = false → (m : Int) = (bd : Int))) := by
            rw [hKN, hbd]
            refine ⟨fun k => ?_, fun k => ?_⟩
            · have k' := of_decide_eq_true k
              unfold HS.bd; rw [if_pos k']
            · have k' := of_decide_eq_false k
              unfold HS.bd; rw [if_neg k', HMX.out]
          rw [← hKN]
          clear hKN hbd hZ hG
          go_upto_region 11 with fail
          go_cut [80] (fun x wx => x = .bool (!KN) ∧ wD = wx)
          case first =>
            go_wp2
            go_meet
            exact ⟨rfl, rfl⟩
          case rest =>
            obtain ⟨rfl, rfl⟩ := hcut
            go_upto_if 80 with fail
            go_cut [8] (fun x wx => x = .int .i64 (bd : Int) ∧ wD = wx)
            case first =>
              cases KN with
              | true =>
                have e1 := HBD.out.1 rfl
                have HE1 : Hid _ := e1
                clear e1 HBD
                go_wp2
                go_meet
                exact ⟨by rw [← HE1.out], rfl⟩
              | false =>
                have e1 := HBD.out.2 rfl
                have HE1 : Hid _ := e1
                clear e1 HBD
                go_wp2
                go_meet
                exact ⟨by rw [← HE1.out], rfl⟩
            case rest =>
              obtain ⟨rfl, rfl⟩ := hcut
              clear HBD
              go_wp2_with fail
              refine Calls.mono (QG.out _ HOD.out.hat) ?_
              rintro e wG ⟨ga, gc, rfl, hoG, hbG⟩
              have HOG : Hid (Own1 W H m (k + 1) s' v' wG) := HOD.out.below hbG
              have HRG : Hid (wG.ownsRow 0 45 2 (.slice ga G gc) G (gC s'.gp)) := owns_mono hoG (Nat.zero_le _)
              clear QG hoG hbG HOD
              go_wp2_with fail
              refine Calls.mono (QH.out _ HOG.out.hat) ?_
              rintro e wH ⟨rfl, hbH⟩
              have HRow : Hid (Own1 W H m (k + 1) s' v' wH ∧ wH.ownsRow 0 45 2 (.slice ga G gc) G (gC s'.gp)) := ⟨HOG.out.below hbH, (Ch.ofBelow (S := fun _ => False) hbH).owns HRG.out (fun _ _ => id)⟩
              clear QH hbH HOG HRG
              go_wp2
              go_loopw [11, 12, 13] (fun nv lv ix wq => ∃ (j : Nat) (L : Int), j ≤ G ∧ ix = .int .i64 j ∧ lv = .int .i64 L ∧ nv = .int .i64 ((bd : Int) - (Z : Int) + (sm (s'.gp.take j) : Int)) ∧ Hid (∀ x y, j < G → s'.gp.getD j (0, 0) = (x, y) → L < (x : Int)) ∧ Hid (Own1 W H m (k + 1) s' v' wq ∧ wq.ownsRow 0 45 2 (.slice ga G gc) G (gC s'.gp))) (fun _ _ ix _ => G - (intOf ix).toNat)
              case atStart => exact ⟨0, -1, Nat.zero_le _, rfl, rfl, by simp [sm], fun x y _ _ => by omega, HRow⟩
              case round =>
                obtain ⟨j, L, hj, rfl, rfl, rfl, HL, HQ⟩ := hrel
                clear HRow
                by_cases hge : G ≤ j
                · have hjG : j = G := by omega
                  have hfin : s'.gp.take j = s'.gp := List.take_of_length_le (by rw [hjG, HG.out]; exact Nat.le_refl _)
                  have e9 : (bd : Int) - (Z : Int) + (sm (s'.gp.take j) : Int) = (bd : Int) := by rw [hfin, ← HZ.out]; omega
                  rw [e9]
                  have QW := whole_any wr H s' v' HQ.out.1.hat
                  have b9 : ((bd : Int) != (bd : Int)) = false := by simp
                  have HOE : Hid (Own1 W H m (k + 1) s' v' wr) := HQ.out.1
                  have hjn : ¬ j < G := by omega
                  clear e9 hfin hge HQ HL
                  go_wp2_with fail
                  refine Calls.mono QW ?_
                  rintro e wW ⟨rfl, rfl⟩
                  clear QW
                  rw [HWV.out]
                  cases KN with
                  | false =>
                    go_wp2
                    go_roundw
                    case rel => exact ⟨k + 1, s', v', by omega, by go_num, HOE⟩
                    case measure => simp [intOf]; omega
                  | true =>
                    by_cases h0 : G = 0
                    · have h0i : ((G : Int) == 0) = true := by rw [beq_iff_eq]; omega
                      rw [decide_eq_true h0]
                      clear h0
                      go_wp2
                      go_roundw
                      case rel => exact ⟨k + 1, s', v', by omega, by go_num, HOE⟩
                      case measure => simp [intOf]; omega
                    · have h0i : ((G : Int) == 0) = false := by rw [beq_eq_false_iff_ne]; omega
                      rw [decide_eq_false h0]
                      clear h0
                      go_wp2
                      go_roundw
                      case rel => exact ⟨k + 1, s', v', by omega, by go_num, HOE⟩
                      case measure => simp [intOf]; omega
                · have hlt : j < G := by omega
                  clear hge
                  obtain ⟨g, hga, _, hgl, hcc⟩ := row_gap HQ.out.2 HG.out.symm (by omega)
                  subst hga
                  obtain ⟨x, y, hxy⟩ : ∃ x y, s'.gp.getD j (0, 0) = (x, y) := ⟨_, _, rfl⟩
                  have hLx := HL.out x y hlt hxy
                  have hat := HRI.out.1.at j (by rw [← HG.out]; exact hlt)
                  obtain ⟨cx, cy⟩ := hcc j hlt
                  rw [hxy] at cx cy hat
                  simp only at cx cy hat
                  obtain ⟨hxy1, hyb⟩ := hat
                  have hb5 := HRI.out.2
                  have HNX : Hid (∀ x2 y2, j + 1 < G → s'.gp.getD (j + 1) (0, 0) = (x2, y2) → (y : Int) < (x2 : Int)) := by
                    intro x2 y2 h1 h2
                    have := HRI.out.1.next j (by rw [← HG.out]; exact h1)
                    rw [hxy, h2] at this
                    simp only at this
                    omega
                  have hstep := sm_step s'.gp j (by rw [← HG.out]; exact hlt)
                  rw [hxy] at hstep
                  simp only at hstep
                  have hsz := sm_take s'.gp j
                  have hsz2 := sm_take s'.gp (j + 1)
                  obtain ⟨z, hz⟩ : ∃ z, z = sm (s'.gp.take j) := ⟨_, rfl⟩
                  rw [← hz] at hstep hsz ⊢
                  rw [hstep, ← HZ.out] at hsz2
                  rw [← HZ.out] at hsz
                  have HST : Hid (sm (s'.gp.take (j + 1)) = z + (y - x)) := hstep
                  have hZb := HZB.out
                  have t1 : ¬ (x : Int) ≤ L := by omega
                  have t2 : ¬ (y : Int) ≤ (x : Int) := by omega
                  have t2' : ¬ y ≤ x := by omega
                  have t3 : ¬ (bd : Int) < (y : Int) := by omega
                  have t3' : ¬ bd < y := by omega
                  have w1 : IntKind.i64.wrap ((y : Int) - (x : Int)) = (y : Int) - (x : Int) := by rw [IntKind.wrap_i64]; omega
                  have w2 : IntKind.i64.wrap ((bd : Int) - (Z : Int) + (z : Int) + ((y : Int) - (x : Int))) = (bd : Int) - (Z : Int) + (z : Int) + ((y : Int) - (x : Int)) := by rw [IntKind.wrap_i64]; omega
                  have HXY : Hid (x < y) := hxy1
                  clear hz hstep hxy hcc hLx hsz2
                  go_upto_region 19 with fail
                  refine MixH.start (fun A => A.cell? ⟨g, j * 2, none⟩ = some (.int .i64 (x : Int)) ∧ A.cell? ⟨g, j * 2 + 1, none⟩ = some (.int .i64 (y : Int))) (by kernel_rfl) ?_
                  obtain ⟨w19, hw19⟩ : ∃ w19, w19 = wr.drew := ⟨_, rfl⟩
                  have hS : w19.cell? ⟨g, j * 2, none⟩ = some (.int .i64 (x : Int)) ∧ w19.cell? ⟨g, j * 2 + 1, none⟩ = some (.int .i64 (y : Int)) := by rw [hw19]; exact ⟨cx, cy⟩
                  replace HQ : Hid (Own1 W H m (k + 1) s' v' w19 ∧ w19.ownsRow 0 45 2 (.slice (some ⟨g, 0, none⟩) G gc) G (gC s'.gp)) := by rw [hw19]; exact ⟨HQ.out.1.below (drew_below (Below.refl _ _)), owns_drew HQ.out.2⟩
                  rw [← hw19]
                  clear hw19 cx cy
                  refine MixH.takes [true, true, true, true, false, true] 24 (by kernel_rfl) (by kernel_rfl) (by decide) (by kernel_rfl) hS (fun K hK => ?_)
                  simp only [Mix.pick]
                  repeat (go_big_quiet_step (fail))
                  refine wpQuiet_nil (hK _ ?_)
                  clear hK K
                  refine MixH.take 23 4 _ (.int .i64 (x : Int)) rfl (by kernel_rfl) (by kernel_rfl) (by kernel_rfl) (by kernel_rfl) (yields_int (.tmp 95) rfl ⟨g, j * 2, none⟩ _ rfl rfl (fun A hA => hA.1)) hS (fun a' ha => ?_)
                  simp only [Act.put, List.setIfInBounds_toArray, List.set_cons_succ, List.set_cons_zero] at ha
                  subst ha
                  refine MixH.takes [false, false, false, false, false, false, true, true, true, true, true, true, false, true, true, true, true] 13 (by kernel_rfl) (by kernel_rfl) (by decide) (by kernel_rfl) hS (fun K hK => ?_)
                  simp only [Mix.pick]
                  repeat (go_big_quiet_step (fail))
                  refine wpQuiet_nil (hK _ ?_)
                  clear hK K
                  refine MixH.take 12 12 _ (.int .i64 (y : Int)) rfl (by kernel_rfl) (by kernel_rfl) (by kernel_rfl) (by kernel_rfl) (yields_int (.tmp 103) rfl ⟨g, j * 2 + 1, none⟩ _ rfl rfl (fun A hA => hA.2)) hS (fun a' ha => ?_)
                  simp only [Act.put, List.setIfInBounds_toArray, List.set_cons_succ, List.set_cons_zero] at ha
                  subst ha
                  refine MixH.take 11 17 _ (.int .i64 (x : Int)) rfl (by kernel_rfl) (by kernel_rfl) (by kernel_rfl) (by kernel_rfl) (yields_int (.tmp 108) rfl ⟨g, j * 2, none⟩ _ rfl rfl (fun A hA => hA.1)) hS (fun a' ha => ?_)
                  simp only [Act.put, List.setIfInBounds_toArray, List.set_cons_succ, List.set_cons_zero] at ha
                  subst ha
                  refine MixH.takes [false, false, false, false, false, false, false, false, false, false, false, false, false, false, false, false, false, false, true, true, true, true, true, true, true, false, true] 3 (by kernel_rfl) (by kernel_rfl) (by decide) (by kernel_rfl) hS (fun K hK => ?_)
                  simp only [Mix.pick]
                  repeat (go_big_quiet_step (fail))
                  refine wpQuiet_nil (hK _ ?_)
                  clear hK K
                  refine MixH.take 2 25 _ (.int .i64 (y : Int)) rfl (by kernel_rfl) (by kernel_rfl) (by kernel_rfl) (by kernel_rfl) (yields_int (.tmp 116) rfl ⟨g, j * 2 + 1, none⟩ _ rfl rfl (fun A hA => hA.2)) hS (fun a' ha => ?_)
                  simp only [Act.put, List.setIfInBounds_toArray, List.set_cons_succ, List.set_cons_zero] at ha
                  subst ha
                  refine MixH.takes [false, false, false, false, false, false, false, false, false, false, false, false, false, false, false, false, false, false, false, false, false, false, false, false, false, false, false, true, true] 0 (by kernel_rfl) (by kernel_rfl) (by decide) (by kernel_rfl) hS (fun K hK => ?_)
                  simp only [Mix.pick]
                  repeat (go_big_quiet_step (fail))
                  refine wpQuiet_nil (hK _ ?_)
                  clear hK K
                  refine MixH.done (by kernel_rfl) ?_
                  obtain ⟨cx, cy⟩ := hS
                  go_upto_region 21 with fail
                  refine MixH.start (fun A => A.cell? ⟨g, j * 2, none⟩ = some (.int .i64 (x : Int)) ∧ A.cell? ⟨g, j * 2 + 1, none⟩ = some (.int .i64 (y : Int))) (by kernel_rfl) ?_
                  obtain ⟨w21, hw21⟩ : ∃ w21, w21 = w19.drew := ⟨_, rfl⟩
                  have hS : w21.cell? ⟨g, j * 2, none⟩ = some (.int .i64 (x : Int)) ∧ w21.cell? ⟨g, j * 2 + 1, none⟩ = some (.int .i64 (y : Int)) := by rw [hw21]; exact ⟨cx, cy⟩
                  replace HQ : Hid (Own1 W H m (k + 1) s' v' w21 ∧ w21.ownsRow 0 45 2 (.slice (some ⟨g, 0, none⟩) G gc) G (gC s'.gp)) := by rw [hw21]; exact ⟨HQ.out.1.below (drew_below (Below.refl _ _)), owns_drew HQ.out.2⟩
                  rw [← hw21]
                  clear hw21 cx cy
                  refine MixH.takes [true, true, true, true, true, false, true, true, true, true] 5 (by kernel_rfl) (by kernel_rfl) (by decide) (by kernel_rfl) hS (fun K hK => ?_)
                  simp only [Mix.pick]
                  repeat (go_big_quiet_step (fail))
                  refine wpQuiet_nil (hK _ ?_)
                  clear hK K
                  refine MixH.take 4 5 _ (.int .i64 (y : Int)) rfl (by kernel_rfl) (by kernel_rfl) (by kernel_rfl) (by kernel_rfl) (yields_int (.tmp 125) rfl ⟨g, j * 2 + 1, none⟩ _ rfl rfl (fun A hA => hA.2)) hS (fun a' ha => ?_)
                  simp only [Act.put, List.setIfInBounds_toArray, List.set_cons_succ, List.set_cons_zero] at ha
                  subst ha
                  refine MixH.take 3 10 _ (.int .i64 (x : Int)) rfl (by kernel_rfl) (by kernel_rfl) (by kernel_rfl) (by kernel_rfl) (yields_int (.tmp 130) rfl ⟨g, j * 2, none⟩ _ rfl rfl (fun A hA => hA.1)) hS (fun a' ha => ?_)
                  simp only [Act.put, List.setIfInBounds_toArray, List.set_cons_succ, List.set_cons_zero] at ha
                  subst ha
                  refine MixH.takes [false, false, false, false, false, false, false, false, false, false, false, true, true, true] 0 (by kernel_rfl) (by kernel_rfl) (by decide) (by kernel_rfl) hS (fun K hK => ?_)
                  simp only [Mix.pick]
                  repeat (go_big_quiet_step (fail))
                  refine wpQuiet_nil (hK _ ?_)
                  clear hK K
                  refine MixH.done (by kernel_rfl) ?_
                  obtain ⟨cx, cy⟩ := hS
                  go_wp2
                  go_roundw
                  case rel => exact ⟨j + 1, (y : Int), by omega, by go_num, rfl, by rw [HST.out]; have := HXY.out; congr 1; omega, HNX, HQ⟩
                  case measure => simp [intOf]; omega
end Go.Proofs.Ythlnmonmbldcdaa
