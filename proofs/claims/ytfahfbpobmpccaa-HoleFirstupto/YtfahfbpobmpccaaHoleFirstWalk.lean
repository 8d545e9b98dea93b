/-
  The walk of HoleFirst.
-/
import Derived.Test.YtfahfbpobmpccaaHFsQ
import Derived.Test.YtfahfbpobmpccaaRows
namespace Go.Proofs.Ytfahfbpobmpccaa
open Go.RowKit Go.Maps H11
namespace H11
theorem pc3_new (w : World) (a b c : Value) : (w.alloc (.cells #[a, b, c] 37)).cell? ⟨w.heap.size, 0, none⟩ = some a ∧ (w.alloc (.cells #[a, b, c] 37)).cell? ⟨w.heap.size, 1, none⟩ = some b ∧ (w.alloc (.cells #[a, b, c] 37)).cell? ⟨w.heap.size, 2, none⟩ = some c ∧ (w.alloc (.cells #[a, b, c] 37)).frozen? ⟨w.heap.size, 1, none⟩ = false := by
  refine ⟨by rw [World.cell?_alloc_at _ _ _ _ rfl]; rfl, by rw [World.cell?_alloc_at _ _ _ _ rfl]; rfl, by rw [World.cell?_alloc_at _ _ _ _ rfl]; rfl, ?_⟩
  have := heap_alloc_new w (.cells #[a, b, c] 37)
  unfold World.frozen?
  rw [this]
  simp
/-- the end, as HoleFirst keeps it -/
def eI (s : HS) : Int := if 0 < s.en then (s.en : Int) else -1
end H11

set_option maxRecDepth 100000 in
set_option maxHeartbeats 51200000 in
theorem holeFirst.walk (W : World) (a0 : Int) (_ : (Lit.int .i64 a0).wf = true) (a : Option Addr) (len cap : Nat) (ops : List PcV) (hl : ops.length = len) (hs : PcsU W a ops) (_ : len ≤ 1048576) :
    Calls Try.prog 6 #[.int .i64 a0, .slice a len cap] W fun e W' => e = .returned (.bool true) ∧ Below W.heap.size W W' := by
  obtain ⟨m, hm, hm1, hm2⟩ : ∃ m : Nat, (m : Int) = (if a0 < 8 ∨ 65535 < a0 then 64 else a0) ∧ 1 ≤ m ∧ m ≤ 65535 := by
    by_cases h : a0 < 8 ∨ 65535 < a0
    · exact ⟨64, by rw [if_pos h]; rfl, by omega, by omega⟩
    · exact ⟨a0.toNat, by rw [if_neg h]; omega, by omega, by omega⟩
  have QN : Hid _ := new_yes W m hm1 hm2
  have HPS : Hid (PcsU W a ops) := hs
  have HLN : Hid (ops.length = len) := hl
  have HM : Hid (1 ≤ m ∧ m ≤ 65535) := ⟨hm1, hm2⟩
  clear hl hs hm1 hm2
  go_enter Try.func6, Try.ntmps6
  go_upto_region 1 with fail
  go_cut [30] (fun x wx => x = .bool (decide (a0 < 8 ∨ 65535 < a0)) ∧ W = wx)
  case first =>
    by_cases h1 : a0 < 8
    · have HD : Hid (decide (a0 < 8 ∨ 65535 < a0) = true) := decide_eq_true (.inl h1)
      go_wp2
      go_meet
      exact ⟨by rw [HD.out], rfl⟩
    · by_cases h2 : (65535 : Int) < a0
      · have HD : Hid (decide (a0 < 8 ∨ 65535 < a0) = true) := decide_eq_true (.inr h2)
        go_wp2
        go_meet
        exact ⟨by rw [HD.out], rfl⟩
      · have HD : Hid (decide (a0 < 8 ∨ 65535 < a0) = false) := decide_eq_false (by omega)
        go_wp2
        go_meet
        exact ⟨by rw [HD.out], rfl⟩
  case rest =>
    obtain ⟨rfl, rfl⟩ := hcut
    go_upto_if 30 with fail
    go_cut [0] (fun x wx => x = .int .i64 (m : Int) ∧ W = wx)
    case first =>
      by_cases h0 : a0 < 8 ∨ 65535 < a0
      · rw [if_pos h0] at hm
        rw [decide_eq_true h0]
        have HM4 : Hid ((m : Int) = 64) := hm
        clear hm h0
        go_wp2
        go_meet
        exact ⟨by rw [HM4.out], rfl⟩
      · rw [if_neg h0] at hm
        rw [decide_eq_false h0]
        have HM4 : Hid ((m : Int) = a0) := hm
        clear h0 hm
        go_wp2
        go_meet
        exact ⟨by rw [HM4.out], rfl⟩
    case rest =>
      obtain ⟨rfl, rfl⟩ := hcut
      clear hm
      go_wp2_with fail
      refine Calls.mono QN.out ?_
      rintro e w1 ⟨H, v, rfl, hat1, hlo1, hb1⟩
      have HO1 : Hid (HFr W H m 0 [] [] (.slice none 0 0) (nw m) v w1 ∧ FSt [] (nw m)) := ⟨⟨⟨hat1, nw_inv m HM.out.1 HM.out.2, rfl, by simp [nw], hlo1, hb1⟩, World.ownsRow_nil _ _ _ _, by simp, by simp, by simp [Value.ownBlock], by simp, by simp⟩, FSt.start m HM.out.1 HM.out.2⟩
      clear QN hat1 hlo1 hb1
      go_wp2
      go_loopw [7, 8, 9] (fun tv ev ix wr => ∃ (k : Nat) (L : List TV) (s : HS) (v : HV), (k ≤ len ∧ k ≤ 120) ∧ ix = .int .i64 (k : Int) ∧ ev = .int .i64 (eI s) ∧ Hid (HFr W H m k L L tv s v wr ∧ FSt (L.map TV.tp) s)) (fun _ _ ix _ => len - (intOf ix).toNat)
      case atStart => exact ⟨0, [], nw m, v, by omega, rfl, by simp [eI, nw], HO1⟩
      case round =>
        obtain ⟨k, L, s, v, hk, rfl, rfl, HW⟩ := hrel
        clear HO1
        obtain ⟨ta, tc, htv⟩ := owns_shape HW.out.1.row
        obtain ⟨TN, hTN⟩ : ∃ TN, TN = L.length := ⟨_, rfl⟩
        rw [← hTN] at htv
        subst htv
        have HTN : Hid (TN = L.length) := hTN
        have hTN1 : TN ≤ k := by rw [hTN]; exact HW.out.1.cnt
        clear hTN
        by_cases hge : len ≤ k ∨ 120 ≤ k
        · by_cases h1 : len ≤ k
          · have d1 : ¬ (k : Int) < (len : Int) := by omega
            clear hge h1
            as_aux_lemma =>
              by_cases hT0 : TN = 0
              · have hL0 : L = [] := List.length_eq_zero_iff.1 (by rw [← HTN.out]; exact hT0)
                subst hL0
                have HF1 : Hid (FSt [] s) := HW.out.2
                have H1 : Hid (HFr W H m k [] [] (.slice ta TN tc) s v wr) := HW.out.1
                obtain ⟨f1, f2, f3, f4⟩ := HF1.out.one (by rw [H1.out.own.mx]; exact HM.out.1) 7 (by omega)
                have HFO : Hid (rf s 0 1 false = 0 ∧ fN 0 1 s.gp = 1 ∧ (0 < (pt s 0 [7] false).en ∧ (pt s 0 [7] false).gp = []) ∧ (pt s 0 [7] false).bs = [7]) := ⟨f1, f2, f3, f4⟩
                have c0 : ((TN : Int) == 0) = true := by rw [beq_iff_eq]; omega
                clear f1 f2 f3 f4 hT0 HW
                go_wp2_with fail
                generalize hw2 : wr.alloc _ = w2
                have hb2 : Below wr.heap.size wr w2 := by rw [← hw2]; exact (Below.refl _ _).alloc (Nat.le_refl _) _
                have hsg : Seg .u8 w2 (some ⟨wr.heap.size, 0, none⟩) (toI [7]) := by
                  refine .inr ⟨wr.heap.size, 0, rfl, ?_⟩
                  intro i hi
                  obtain rfl : i = 0 := by simp [toI] at hi; exact hi
                  rw [← hw2, World.cell?_alloc_at _ _ _ _ rfl]
                  rfl
                have hsz : w2.heap.size = wr.heap.size + 1 := by rw [← hw2]; simp
                have H2 : Hid (HFr W H m k [] [(⟨⟨0, [7], false⟩, some ⟨wr.heap.size, 0, none⟩, 1⟩ : TV)] (.slice ta TN tc) s v w2) := by
                  have h2 := H1.out.below hb2
                  refine ⟨h2.own, h2.row, ?_, ?_, h2.tvn, ?_, h2.cnt⟩
                  · intro p hp
                    rw [List.mem_singleton.1 hp]
                    exact hsg
                  · intro p hp x hx _
                    rw [List.mem_singleton.1 hp] at hx
                    simp only [Option.some.injEq] at hx
                    subst hx
                    exact ⟨by simp only; omega, fun q => by have := H1.out.own.hat.lt _ q; simp only at this; omega, fun q => by have := (H1.out.row.lt _ q).2; simp only at this; omega⟩
                  · intro p hp
                    rw [List.mem_singleton.1 hp]
                    simp
                have QP : Hid (Calls Try.prog 13 #[.pointer (some ⟨H, 0, none⟩), .int .i64 0, .slice (some ⟨wr.heap.size, 0, none⟩) 1 1, .bool false] w2 fun r w' => ∃ OL SM v', r = .returned (.tuple #[.agg #[.int .i64 1, .int .i64 OL, .bool SM], .int .i64 0]) ∧ HFr W H m (k + 1) [] [(⟨⟨0, [7], false⟩, some ⟨wr.heap.size, 0, none⟩, 1⟩ : TV)] (.slice ta TN tc) (pt s 0 [7] false) v' w') := by
                  have h1 := H2.out.put (by omega) 0 ⟨⟨0, [7], false⟩, some ⟨wr.heap.size, 0, none⟩, 1⟩ (by simp) (by simp)
                  refine Calls.mono h1 ?_
                  rintro e w' ⟨rfl, _, v', h⟩
                  have hps : pS s 0 [7] false = pt s 0 [7] false := by unfold pS; exact if_pos HFO.out.1
                  have hpn : pN s 0 [7] false = 1 := by unfold pN; exact (if_pos HFO.out.1).trans HFO.out.2.1
                  have hrf : rf s 0 ([7] : List Nat).length false = 0 := HFO.out.1
                  simp only at h ⊢
                  rw [hps] at h
                  rw [hpn, hrf]
                  exact ⟨_, _, v', rfl, h⟩
                clear hw2 hb2 hsg hsz H1 H2
                refine Calls.mono QP.out ?_
                rintro e3 w3 ⟨OL, SM, v3, rfl, h3⟩
                have H3 : Hid (HFr W H m (k + 1) [] [(⟨⟨0, [7], false⟩, some ⟨wr.heap.size, 0, none⟩, 1⟩ : TV)] (.slice ta TN tc) (pt s 0 [7] false) v3 w3) := h3
                clear QP h3
                go_wp2_with fail
                obtain ⟨f1, f2, f3, f4⟩ := HFO.out
                obtain ⟨w4, hw4⟩ : ∃ w4, w4 = w3.alloc (.cells #[.int .i64 1, .int .i64 OL, .bool SM] 33) := ⟨_, rfl⟩
                have hb4 : Below w3.heap.size w3 w4 := by rw [hw4]; exact (Below.refl _ _).alloc (Nat.le_refl _) _
                have hc4 : w4.cell? ⟨w3.heap.size, 0, none⟩ = some (.int .i64 1) := by rw [hw4, World.cell?_alloc_at _ _ _ _ rfl]; rfl
                have hF4 : w3.heap.size < w4.heap.size := by rw [hw4]; simp
                have H4 := H3.out.below hb4
                have QB : Hid _ := bytes_any w4 H (pt s 0 [7] false) v3 H4.own.hat (by rw [f4]; simp) true (decide_eq_true f3).symm
                rw [bz_t, f4] at QB
                have HO4 : Hid (Own1 W H m (k + 1) (pt s 0 [7] false) v3 w4) := H4.own
                rw [← hw4]
                clear hw4 hb4 H3 H4 f1 f2 f3 f4 HFO
                refine Calls.mono QB.out ?_
                rintro e5 w5 ⟨ua, un, uc, rfl, hul, hub, hb5⟩
                obtain rfl : un = 1 := by simpa using hul.symm
                have c5 : w5.cell? ⟨w3.heap.size, 0, none⟩ = some (.int .i64 1) := (World.cell?_of_block (hb5.block w3.heap.size hF4)).trans hc4
                obtain ⟨a', c', q1, hsg, _⟩ := owns_seg hub (k := .u8)
                simp only [Value.slice.injEq, true_and] at q1
                obtain ⟨rfl, rfl⟩ := q1
                obtain ⟨bb, bo, rfl, hcell⟩ := seg_at hsg 0 (by simp)
                have b0 : w5.cell? ⟨bb, bo, none⟩ = some (.int .u8 7) := hcell 0 (by simp)
                have b0' : w5.cell? ⟨bb, bo + 0, none⟩ = some (.int .u8 7) := b0
                have HBF : Hid (Below W.heap.size W w5) := (HO4.out.below hb5).bel
                clear QB hul hub hb5 hc4 hF4 hsg hcell HO4
                go_wp2
                (try rw [Exit.noGoto_ret])
                go_ret
                exact ⟨rfl, HBF.out⟩
              · have c0 : ((TN : Int) == 0) = false := by rw [beq_eq_false_iff_ne]; omega
                have hbl : s.bs.length ≤ 65535 := by have h1 := HW.out.2.inv.bl; have h2 := (HS.bd_le HW.out.2.inv).1; omega
                clear hT0
                by_cases hwh : 0 < s.en ∧ s.gp = []
                · have hlen := HW.out.2.len hwh
                  have QB : Hid _ := bytes_any wr H s v HW.out.1.own.hat hbl true (decide_eq_true hwh).symm
                  rw [bz_t] at QB
                  have he : eI s = (s.en : Int) := by unfold eI; rw [if_pos hwh.1]
                  obtain ⟨N, hN⟩ : ∃ N, N = s.en := ⟨_, rfl⟩
                  rw [← hN] at he
                  rw [hlen, ← hN] at QB
                  rw [he]
                  have HNE : Hid (N = s.en ∧ 0 < s.en ∧ s.gp = [] ∧ s.bs.length = N) := ⟨hN, hwh.1, hwh.2, by rw [hlen, hN]⟩
                  have hN5 : N ≤ 65535 := by omega
                  clear hlen he hN hwh hbl
                  go_wp2_with fail
                  refine Calls.mono QB.out ?_
                  rintro e5 w5 ⟨ba, bn, bc, rfl, hul, hub, hb5⟩
                  subst hul
                  have H5 : Hid (HFr W H m k L L (.slice ta TN tc) s v w5 ∧ FSt (L.map TV.tp) s) := ⟨HW.out.1.below hb5, HW.out.2⟩
                  obtain ⟨B, hB⟩ : ∃ B, B = wr.heap.size := ⟨_, rfl⟩
                  rw [← hB] at hub
                  clear hB
                  have HUB : Hid (w5.ownsRow B 5 1 (.slice ba N bc) N ((toI s.bs).map (Value.int .u8))) := hub
                  have g1 : ((N : Int) != (N : Int)) = false := by simp
                  clear QB hub hb5 HW
                  have HL : Hid (HFr W H m k L L (.slice ta TN tc) s v w5 ∧ w5.ownsRow B 5 1 (.slice ba N bc) N ((toI s.bs).map (Value.int .u8))) := ⟨H5.out.1, HUB.out⟩
                  have HFS : Hid (FSt (L.map TV.tp) s) := H5.out.2
                  clear H5 HUB
                  go_wp2
                  go_loopw [23] (fun ix wx => ∃ i : Nat, i ≤ N ∧ ix = .int .i64 (i : Int) ∧ Hid (HFr W H m k L L (.slice ta TN tc) s v wx ∧ wx.ownsRow B 5 1 (.slice ba N bc) N ((toI s.bs).map (Value.int .u8)))) (fun ix _ => N - (intOf ix).toNat)
                  case atStart => exact ⟨0, Nat.zero_le _, rfl, HL⟩
                  case round =>
                    obtain ⟨i, hi, rfl, HY⟩ := hrel
                    clear HL
                    by_cases hge : N ≤ i
                    · have d3 : ¬ (i : Int) < (N : Int) := by omega
                      clear hge
                      go_wp2
                      (try rw [Exit.noGoto_ret])
                      go_ret
                      exact ⟨rfl, HY.out.1.own.bel⟩
                    · have d3 : (i : Int) < (N : Int) := by omega
                      have hiN : i < N := by omega
                      clear hge
                      go_wp2
                      go_loopw [24] (fun ix wx => ∃ j : Nat, j ≤ TN ∧ ix = .int .i64 (j : Int) ∧ Hid (HFr W H m k L L (.slice ta TN tc) s v wx ∧ wx.ownsRow B 5 1 (.slice ba N bc) N ((toI s.bs).map (Value.int .u8))) ∧ Hid (∀ p, p ∈ L.take j → p.tp.cov i = false)) (fun ix _ => TN - (intOf ix).toNat)
                      case atStart => exact ⟨0, Nat.zero_le _, rfl, HY, fun p hp => by simp at hp⟩
                      case round =>
                        obtain ⟨j, hj, rfl, HZ, HC⟩ := hrel
                        clear HY
                        have hjL : j < L.length := HFS.out.there ⟨HNE.out.2.1, HNE.out.2.2.1⟩ i (by rw [← HNE.out.1]; exact hiN) j HC.out
                        have hjT : (j : Int) < (TN : Int) := by have := HTN.out; omega
                        obtain ⟨g, hga, c0, c1⟩ := tv_row HZ.out.1.row HTN.out j hjL
                        subst hga
                        obtain ⟨t, ht⟩ : ∃ t, t = L[j] := ⟨_, rfl⟩
                        rw [← ht] at c0 c1
                        obtain ⟨⟨o, d, mo⟩, xa, xc⟩ := t
                        simp only at c0 c1
                        obtain ⟨n, hn⟩ : ∃ n, n = d.length := ⟨_, rfl⟩
                        rw [← hn] at c1
                        have HT : Hid (∃ h : j < L.length, (⟨⟨o, d, mo⟩, xa, xc⟩ : TV) = L[j] ∧ n = d.length) := ⟨hjL, ht, hn⟩
                        have hon : o + n ≤ 65535 := by
                          have h1 := HFS.out.bl ⟨o, d, mo⟩ (List.mem_map.2 ⟨⟨⟨o, d, mo⟩, xa, xc⟩, by rw [ht]; exact List.getElem_mem hjL, rfl⟩)
                          simp only at h1
                          have h2 := HNE.out.2.2.2
                          omega
                        clear ht hn hjL hj
                        have w1 : IntKind.i64.wrap ((o : Int) + (n : Int)) = ((o + n : Nat) : Int) := by rw [IntKind.wrap_i64]; omega
                        go_upto_region 39 with fail
                        refine MixH.start (fun A => A.cell? ⟨g, j * 3, none⟩ = some (.int .i64 (o : Int)) ∧ A.cell? ⟨g, j * 3 + 1, none⟩ = some (.slice xa n xc)) (by kernel_rfl) ?_
                        obtain ⟨wA, hwA⟩ : ∃ wA, wA = wr.drew := ⟨_, rfl⟩
                        have hS : wA.cell? ⟨g, j * 3, none⟩ = some (.int .i64 (o : Int)) ∧ wA.cell? ⟨g, j * 3 + 1, none⟩ = some (.slice xa n xc) := by rw [hwA]; exact ⟨c0, c1⟩
                        have HA : Hid (HFr W H m k L L (.slice (some ⟨g, 0, none⟩) TN tc) s v wA ∧ wA.ownsRow B 5 1 (.slice ba N bc) N ((toI s.bs).map (Value.int .u8))) := by
                          have hbb : Below wr.heap.size wr wr.drew := drew_below (Below.refl _ _)
                          rw [hwA]
                          exact ⟨HZ.out.1.below hbb, (Ch.ofBelow (S := fun _ => False) hbb).owns HZ.out.2 (fun _ _ => id)⟩
                        rw [← hwA]
                        clear hwA c0 c1 HZ
                        by_cases hio : i < o
                        · have d4 : (i : Int) < (o : Int) := by omega
                          as_aux_lemma =>
                            refine MixH.takes [true, true, true, true, true, true, true, true, true, true] 19 (by kernel_rfl) (by kernel_rfl) (by decide) (by kernel_rfl) hS (fun K hK => ?_)
                            simp only [Mix.pick]
                            repeat (go_big_quiet_step (fail))
                            refine wpQuiet_nil (hK _ ?_)
                            clear hK K
                            refine MixH.take 18 10 _ (.int .i64 (o : Int)) rfl (by kernel_rfl) (by kernel_rfl) (by kernel_rfl) (by kernel_rfl) (yields_int (.tmp 232) rfl ⟨g, j * 3, none⟩ _ rfl rfl (fun A hA => hA.1)) hS (fun a' ha => ?_)
                            simp only [Act.put, List.setIfInBounds_toArray, List.set_cons_succ, List.set_cons_zero] at ha
                            subst ha
                            refine MixH.takes [false, false, false, false, false, false, false, false, false, false, false, true, true, true, true, true, true, true] 11 (by kernel_rfl) (by kernel_rfl) (by decide) (by kernel_rfl) hS (fun K hK => ?_)
                            simp only [Mix.pick]
                            repeat (go_big_quiet_step (fail))
                            refine wpQuiet_nil (hK _ ?_)
                            clear hK K
                            refine MixH.take 10 18 _ (undef) rfl (by kernel_rfl) (by kernel_rfl) (by kernel_rfl) (by kernel_rfl) (.inr ⟨rfl, rfl⟩) hS (fun a' ha => ?_)
                            simp only [Act.put, List.setIfInBounds_toArray, List.set_cons_succ, List.set_cons_zero] at ha
                            subst ha
                            refine MixH.takes [false, false, false, false, false, false, false, false, false, false, false, false, false, false, false, false, false, false, false, true, true, true, true] 6 (by kernel_rfl) (by kernel_rfl) (by decide) (by kernel_rfl) hS (fun K hK => ?_)
                            simp only [Mix.pick]
                            repeat (go_big_quiet_step (fail))
                            refine wpQuiet_nil (hK _ ?_)
                            clear hK K
                            refine MixH.take 5 23 _ (undef) rfl (by kernel_rfl) (by kernel_rfl) (by kernel_rfl) (by kernel_rfl) (.inr ⟨rfl, rfl⟩) hS (fun a' ha => ?_)
                            simp only [Act.put, List.setIfInBounds_toArray, List.set_cons_succ, List.set_cons_zero] at ha
                            subst ha
                            refine MixH.takes [false, false, false, false, false, false, false, false, false, false, false, false, false, false, false, false, false, false, false, false, false, false, false, false, true, true, true, true, true] 0 (by kernel_rfl) (by kernel_rfl) (by decide) (by kernel_rfl) hS (fun K hK => ?_)
                            simp only [Mix.pick]
                            repeat (go_big_quiet_step (fail))
                            refine wpQuiet_nil (hK _ ?_)
                            clear hK K
                            refine MixH.done (by kernel_rfl) ?_
                            clear hS w1
                            have HC2 : Hid (∀ p, p ∈ L.take (j + 1) → p.tp.cov i = false) := by
                              obtain ⟨h1, h2, h3⟩ := HT.out
                              refine take_next h1 HC.out ?_
                              rw [← h2]
                              exact decide_eq_false (by simp only; omega)
                            go_wp2
                            go_roundw
                            case rel => exact ⟨j + 1, by omega, by go_num, HA, HC2⟩
                            case measure => simp [intOf]; omega
                        · have d4 : ¬ (i : Int) < (o : Int) := by omega
                          by_cases hin : o + n ≤ i
                          · have d5 : ((o + n : Nat) : Int) ≤ (i : Int) := by omega
                            as_aux_lemma =>
                              refine MixH.takes [true, true, true, true, true, true, true, true, true, true] 19 (by kernel_rfl) (by kernel_rfl) (by decide) (by kernel_rfl) hS (fun K hK => ?_)
                              simp only [Mix.pick]
                              repeat (go_big_quiet_step (fail))
                              refine wpQuiet_nil (hK _ ?_)
                              clear hK K
                              refine MixH.take 18 10 _ (.int .i64 (o : Int)) rfl (by kernel_rfl) (by kernel_rfl) (by kernel_rfl) (by kernel_rfl) (yields_int (.tmp 232) rfl ⟨g, j * 3, none⟩ _ rfl rfl (fun A hA => hA.1)) hS (fun a' ha => ?_)
                              simp only [Act.put, List.setIfInBounds_toArray, List.set_cons_succ, List.set_cons_zero] at ha
                              subst ha
                              refine MixH.takes [false, false, false, false, false, false, false, false, false, false, false, true, true, true, true, true, true, true] 11 (by kernel_rfl) (by kernel_rfl) (by decide) (by kernel_rfl) hS (fun K hK => ?_)
                              simp only [Mix.pick]
                              repeat (go_big_quiet_step (fail))
                              refine wpQuiet_nil (hK _ ?_)
                              clear hK K
                              refine MixH.take 10 18 _ (.int .i64 (o : Int)) rfl (by kernel_rfl) (by kernel_rfl) (by kernel_rfl) (by kernel_rfl) (yields_int (.tmp 240) rfl ⟨g, j * 3, none⟩ _ rfl rfl (fun A hA => hA.1)) hS (fun a' ha => ?_)
                              simp only [Act.put, List.setIfInBounds_toArray, List.set_cons_succ, List.set_cons_zero] at ha
                              subst ha
                              refine MixH.takes [false, false, false, false, false, false, false, false, false, false, false, false, false, false, false, false, false, false, false, true, true, true, true] 6 (by kernel_rfl) (by kernel_rfl) (by decide) (by kernel_rfl) hS (fun K hK => ?_)
                              simp only [Mix.pick]
                              repeat (go_big_quiet_step (fail))
                              refine wpQuiet_nil (hK _ ?_)
                              clear hK K
                              refine MixH.take 5 23 _ (.slice xa n xc) rfl (by kernel_rfl) (by kernel_rfl) (by kernel_rfl) (by kernel_rfl) (yields_bytes (.tmp 245) rfl ⟨g, j * 3 + 1, none⟩ _ rfl rfl (fun A hA => hA.2)) hS (fun a' ha => ?_)
                              simp only [Act.put, List.setIfInBounds_toArray, List.set_cons_succ, List.set_cons_zero] at ha
                              subst ha
                              refine MixH.takes [false, false, false, false, false, false, false, false, false, false, false, false, false, false, false, false, false, false, false, false, false, false, false, false, true, true, true, true, true] 0 (by kernel_rfl) (by kernel_rfl) (by decide) (by kernel_rfl) hS (fun K hK => ?_)
                              simp only [Mix.pick]
                              repeat (go_big_quiet_step (fail))
                              refine wpQuiet_nil (hK _ ?_)
                              clear hK K
                              refine MixH.done (by kernel_rfl) ?_
                              clear hS w1
                              have HC2 : Hid (∀ p, p ∈ L.take (j + 1) → p.tp.cov i = false) := by
                                obtain ⟨h1, h2, h3⟩ := HT.out
                                refine take_next h1 HC.out ?_
                                rw [← h2]
                                exact decide_eq_false (by simp only; omega)
                              go_wp2
                              go_roundw
                              case rel => exact ⟨j + 1, by omega, by go_num, HA, HC2⟩
                              case measure => simp [intOf]; omega
                          · have d5 : ¬ ((o + n : Nat) : Int) ≤ (i : Int) := by omega
                            as_aux_lemma =>
                              refine MixH.takes [true, true, true, true, true, true, true, true, true, true] 19 (by kernel_rfl) (by kernel_rfl) (by decide) (by kernel_rfl) hS (fun K hK => ?_)
                              simp only [Mix.pick]
                              repeat (go_big_quiet_step (fail))
                              refine wpQuiet_nil (hK _ ?_)
                              clear hK K
                              refine MixH.take 18 10 _ (.int .i64 (o : Int)) rfl (by kernel_rfl) (by kernel_rfl) (by kernel_rfl) (by kernel_rfl) (yields_int (.tmp 232) rfl ⟨g, j * 3, none⟩ _ rfl rfl (fun A hA => hA.1)) hS (fun a' ha => ?_)
                              simp only [Act.put, List.setIfInBounds_toArray, List.set_cons_succ, List.set_cons_zero] at ha
                              subst ha
                              refine MixH.takes [false, false, false, false, false, false, false, false, false, false, false, true, true, true, true, true, true, true] 11 (by kernel_rfl) (by kernel_rfl) (by decide) (by kernel_rfl) hS (fun K hK => ?_)
                              simp only [Mix.pick]
                              repeat (go_big_quiet_step (fail))
                              refine wpQuiet_nil (hK _ ?_)
                              clear hK K
                              refine MixH.take 10 18 _ (.int .i64 (o : Int)) rfl (by kernel_rfl) (by kernel_rfl) (by kernel_rfl) (by kernel_rfl) (yields_int (.tmp 240) rfl ⟨g, j * 3, none⟩ _ rfl rfl (fun A hA => hA.1)) hS (fun a' ha => ?_)
                              simp only [Act.put, List.setIfInBounds_toArray, List.set_cons_succ, List.set_cons_zero] at ha
                              subst ha
                              refine MixH.takes [false, false, false, false, false, false, false, false, false, false, false, false, false, false, false, false, false, false, false, true, true, true, true] 6 (by kernel_rfl) (by kernel_rfl) (by decide) (by kernel_rfl) hS (fun K hK => ?_)
                              simp only [Mix.pick]
                              repeat (go_big_quiet_step (fail))
                              refine wpQuiet_nil (hK _ ?_)
                              clear hK K
                              refine MixH.take 5 23 _ (.slice xa n xc) rfl (by kernel_rfl) (by kernel_rfl) (by kernel_rfl) (by kernel_rfl) (yields_bytes (.tmp 245) rfl ⟨g, j * 3 + 1, none⟩ _ rfl rfl (fun A hA => hA.2)) hS (fun a' ha => ?_)
                              simp only [Act.put, List.setIfInBounds_toArray, List.set_cons_succ, List.set_cons_zero] at ha
                              subst ha
                              refine MixH.takes [false, false, false, false, false, false, false, false, false, false, false, false, false, false, false, false, false, false, false, false, false, false, false, false, true, true, true, true, true] 0 (by kernel_rfl) (by kernel_rfl) (by decide) (by kernel_rfl) hS (fun K hK => ?_)
                              simp only [Mix.pick]
                              repeat (go_big_quiet_step (fail))
                              refine wpQuiet_nil (hK _ ?_)
                              clear hK K
                              refine MixH.done (by kernel_rfl) ?_
                              obtain ⟨q, hq⟩ : ∃ q : Nat, i = o + q := ⟨i - o, by omega⟩
                              have hqn : q < n := by omega
                              obtain ⟨V, hV⟩ : ∃ V : Nat, V = s.bs.getD i 0 := ⟨_, rfl⟩
                              have hVq : V = d.getD q 0 := by
                                obtain ⟨h1, h2, h3⟩ := HT.out
                                have h4 := HFS.out.at i j h1 HC.out (by rw [← h2]; exact decide_eq_true (by simp only; omega))
                                rw [← h2] at h4
                                simp only at h4
                                rw [hV, h4, hq, Nat.add_sub_cancel_left]
                              have hsx : Seg .u8 wA xa (toI d) := by
                                obtain ⟨h1, h2, h3⟩ := HT.out
                                have := HA.out.1.seg L[j] (List.getElem_mem h1)
                                rw [← h2] at this
                                exact this
                              obtain ⟨xb, xo, rfl, hxc⟩ := seg_at hsx q (by have := HT.out.2.2; obtain ⟨_, _, h3⟩ := HT.out; omega)
                              have e2 := hxc q (by obtain ⟨_, _, h3⟩ := HT.out; omega)
                              obtain ⟨ba', bc', eq1, hsb, _, hbc, _⟩ := owns_seg HA.out.2 (k := .u8)
                              simp only [Value.slice.injEq, true_and] at eq1
                              obtain ⟨rfl, rfl⟩ := eq1
                              obtain ⟨bb, bo, rfl, hbx⟩ := seg_at hsb i (by have := HNE.out.2.2.2; omega)
                              have e1 := hbx i (by have := HNE.out.2.2.2; omega)
                              rw [← hV] at e1
                              rw [← hVq] at e2
                              have w2 : IntKind.i64.wrap ((i : Int) - (o : Int)) = (q : Int) := by rw [IntKind.wrap_i64]; omega
                              have d6 : (q : Int) < (n : Int) := by omega
                              have d7 : ((j : Int) == (TN : Int)) = false := by rw [beq_eq_false_iff_ne]; omega
                              have d8 : ((V : Int) != (V : Int)) = false := by simp
                              have d9 : (0 : Int) ≤ (q : Int) := by omega
                              obtain ⟨c0, c1⟩ := hS
                              clear hq hqn hV hVq hsx hxc hsb hbx hbc
                              go_upto_region 41 with fail
                              clear w1 d4 d5 hio hin
                              refine MixH.start (fun A => A.cell? ⟨bb, bo + i, none⟩ = some (.int .u8 (V : Int)) ∧ A.cell? ⟨g, j * 3 + 1, none⟩ = some (.slice (some ⟨xb, xo, none⟩) n xc) ∧ A.cell? ⟨g, j * 3, none⟩ = some (.int .i64 (o : Int)) ∧ A.cell? ⟨xb, xo + q, none⟩ = some (.int .u8 (V : Int))) (by kernel_rfl) ?_
                              obtain ⟨wB, hwB⟩ : ∃ wB, wB = wA.drew := ⟨_, rfl⟩
                              have hS : wB.cell? ⟨bb, bo + i, none⟩ = some (.int .u8 (V : Int)) ∧ wB.cell? ⟨g, j * 3 + 1, none⟩ = some (.slice (some ⟨xb, xo, none⟩) n xc) ∧ wB.cell? ⟨g, j * 3, none⟩ = some (.int .i64 (o : Int)) ∧ wB.cell? ⟨xb, xo + q, none⟩ = some (.int .u8 (V : Int)) := by rw [hwB]; exact ⟨e1, c1, c0, e2⟩
                              have HB : Hid (HFr W H m k L L (.slice (some ⟨g, 0, none⟩) TN tc) s v wB ∧ wB.ownsRow B 5 1 (.slice (some ⟨bb, bo, none⟩) N bc) N ((toI s.bs).map (Value.int .u8))) := by
                                have hbb : Below wA.heap.size wA wA.drew := drew_below (Below.refl _ _)
                                rw [hwB]
                                exact ⟨HA.out.1.below hbb, (Ch.ofBelow (S := fun _ => False) hbb).owns HA.out.2 (fun _ _ => id)⟩
                              rw [← hwB]
                              clear hwB c0 c1 e1 e2 HA
                              refine MixH.takes [true, true, true, true, true, true, true, true] 17 (by kernel_rfl) (by kernel_rfl) (by decide) (by kernel_rfl) hS (fun K hK => ?_)
                              simp only [Mix.pick]
                              repeat (go_big_quiet_step (fail))
                              refine wpQuiet_nil (hK _ ?_)
                              clear hK K
                              refine MixH.take 16 8 _ (.int .u8 (V : Int)) rfl (by kernel_rfl) (by kernel_rfl) (by kernel_rfl) (by kernel_rfl) (yields_u8 (.tmp 261) rfl ⟨bb, bo + i, none⟩ _ rfl rfl (fun A hA => hA.1)) hS (fun a' ha => ?_)
                              simp only [Act.put, List.setIfInBounds_toArray, List.set_cons_succ, List.set_cons_zero] at ha
                              subst ha
                              refine MixH.takes [false, false, false, false, false, false, false, false, false, true, true, true, true] 12 (by kernel_rfl) (by kernel_rfl) (by decide) (by kernel_rfl) hS (fun K hK => ?_)
                              simp only [Mix.pick]
                              repeat (go_big_quiet_step (fail))
                              refine wpQuiet_nil (hK _ ?_)
                              clear hK K
                              refine MixH.take 11 13 _ (.slice (some ⟨xb, xo, none⟩) n xc) rfl (by kernel_rfl) (by kernel_rfl) (by kernel_rfl) (by kernel_rfl) (yields_bytes (.tmp 266) rfl ⟨g, j * 3 + 1, none⟩ _ rfl rfl (fun A hA => hA.2.1)) hS (fun a' ha => ?_)
                              simp only [Act.put, List.setIfInBounds_toArray, List.set_cons_succ, List.set_cons_zero] at ha
                              subst ha
                              refine MixH.takes [false, false, false, false, false, false, false, false, false, false, false, false, false, false, true, true, true, true, true] 6 (by kernel_rfl) (by kernel_rfl) (by decide) (by kernel_rfl) hS (fun K hK => ?_)
                              simp only [Mix.pick]
                              repeat (go_big_quiet_step (fail))
                              refine wpQuiet_nil (hK _ ?_)
                              clear hK K
                              refine MixH.take 5 19 _ (.int .i64 (o : Int)) rfl (by kernel_rfl) (by kernel_rfl) (by kernel_rfl) (by kernel_rfl) (yields_int (.tmp 272) rfl ⟨g, j * 3, none⟩ _ rfl rfl (fun A hA => hA.2.2.1)) hS (fun a' ha => ?_)
                              simp only [Act.put, List.setIfInBounds_toArray, List.set_cons_succ, List.set_cons_zero] at ha
                              subst ha
                              refine MixH.takes [false, false, false, false, false, false, false, false, false, false, false, false, false, false, false, false, false, false, false, false, true, true] 3 (by kernel_rfl) (by kernel_rfl) (by decide) (by kernel_rfl) hS (fun K hK => ?_)
                              simp only [Mix.pick]
                              repeat (go_big_quiet_step (fail))
                              refine wpQuiet_nil (hK _ ?_)
                              clear hK K
                              refine MixH.take 2 22 _ (.int .u8 (V : Int)) rfl (by kernel_rfl) (by kernel_rfl) (by kernel_rfl) (by kernel_rfl) (yields_u8 (.tmp 275) rfl ⟨xb, xo + q, none⟩ _ rfl rfl (fun A hA => hA.2.2.2)) hS (fun a' ha => ?_)
                              simp only [Act.put, List.setIfInBounds_toArray, List.set_cons_succ, List.set_cons_zero] at ha
                              subst ha
                              refine MixH.takes [false, false, false, false, false, false, false, false, false, false, false, false, false, false, false, false, false, false, false, false, false, false, false, true, true] 0 (by kernel_rfl) (by kernel_rfl) (by decide) (by kernel_rfl) hS (fun K hK => ?_)
                              simp only [Mix.pick]
                              repeat (go_big_quiet_step (fail))
                              refine wpQuiet_nil (hK _ ?_)
                              clear hK K
                              refine MixH.done (by kernel_rfl) ?_
                              clear hS
                              go_wp2
                              go_roundw
                              case rel => exact ⟨i + 1, by omega, by go_num, HB⟩
                              case measure => simp [intOf]; omega
                · have QB : Hid _ := bytes_any wr H s v HW.out.1.own.hat hbl false (decide_eq_false hwh).symm
                  rw [bz_f] at QB
                  have QW : Hid (∀ (A : World) (v2 : HV), HAt A H s v2 → Calls Try.prog 15 #[.pointer (some ⟨H, 0, none⟩)] A fun r w' => r = .returned (.bool false) ∧ A = w') := by
                    intro A v2 hA
                    have := whole_any A H s v2 hA
                    rw [decide_eq_false hwh] at this
                    exact this
                  clear hwh hbl
                  go_wp2_with fail
                  refine Calls.mono QB.out ?_
                  rintro e5 w5 ⟨ba, bn, bc, rfl, hul, hub, hb5⟩
                  obtain rfl : bn = 0 := by simpa using hul.symm
                  have HO : Hid (Own1 W H m k s v w5) := HW.out.1.own.below hb5
                  clear QB hul hub hb5 HW
                  go_wp2_with fail
                  refine Calls.mono (QW.out _ _ HO.out.hat) ?_
                  rintro e6 w6 ⟨rfl, rfl⟩
                  clear QW
                  go_wp2
                  (try rw [Exit.noGoto_ret])
                  go_ret
                  exact ⟨rfl, HO.out.bel⟩
          · have d1 : (k : Int) < (len : Int) := by omega
            have d2 : ¬ (k : Int) < 120 := by omega
            clear hge h1
            as_aux_lemma =>
              by_cases hT0 : TN = 0
              · have hL0 : L = [] := List.length_eq_zero_iff.1 (by rw [← HTN.out]; exact hT0)
                subst hL0
                have HF1 : Hid (FSt [] s) := HW.out.2
                have H1 : Hid (HFr W H m k [] [] (.slice ta TN tc) s v wr) := HW.out.1
                obtain ⟨f1, f2, f3, f4⟩ := HF1.out.one (by rw [H1.out.own.mx]; exact HM.out.1) 7 (by omega)
                have HFO : Hid (rf s 0 1 false = 0 ∧ fN 0 1 s.gp = 1 ∧ (0 < (pt s 0 [7] false).en ∧ (pt s 0 [7] false).gp = []) ∧ (pt s 0 [7] false).bs = [7]) := ⟨f1, f2, f3, f4⟩
                have c0 : ((TN : Int) == 0) = true := by rw [beq_iff_eq]; omega
                clear f1 f2 f3 f4 hT0 HW
                go_wp2_with fail
                generalize hw2 : wr.alloc _ = w2
                have hb2 : Below wr.heap.size wr w2 := by rw [← hw2]; exact (Below.refl _ _).alloc (Nat.le_refl _) _
                have hsg : Seg .u8 w2 (some ⟨wr.heap.size, 0, none⟩) (toI [7]) := by
                  refine .inr ⟨wr.heap.size, 0, rfl, ?_⟩
                  intro i hi
                  obtain rfl : i = 0 := by simp [toI] at hi; exact hi
                  rw [← hw2, World.cell?_alloc_at _ _ _ _ rfl]
                  rfl
                have hsz : w2.heap.size = wr.heap.size + 1 := by rw [← hw2]; simp
                have H2 : Hid (HFr W H m k [] [(⟨⟨0, [7], false⟩, some ⟨wr.heap.size, 0, none⟩, 1⟩ : TV)] (.slice ta TN tc) s v w2) := by
                  have h2 := H1.out.below hb2
                  refine ⟨h2.own, h2.row, ?_, ?_, h2.tvn, ?_, h2.cnt⟩
                  · intro p hp
                    rw [List.mem_singleton.1 hp]
                    exact hsg
                  · intro p hp x hx _
                    rw [List.mem_singleton.1 hp] at hx
                    simp only [Option.some.injEq] at hx
                    subst hx
                    exact ⟨by simp only; omega, fun q => by have := H1.out.own.hat.lt _ q; simp only at this; omega, fun q => by have := (H1.out.row.lt _ q).2; simp only at this; omega⟩
                  · intro p hp
                    rw [List.mem_singleton.1 hp]
                    simp
                have QP : Hid (Calls Try.prog 13 #[.pointer (some ⟨H, 0, none⟩), .int .i64 0, .slice (some ⟨wr.heap.size, 0, none⟩) 1 1, .bool false] w2 fun r w' => ∃ OL SM v', r = .returned (.tuple #[.agg #[.int .i64 1, .int .i64 OL, .bool SM], .int .i64 0]) ∧ HFr W H m (k + 1) [] [(⟨⟨0, [7], false⟩, some ⟨wr.heap.size, 0, none⟩, 1⟩ : TV)] (.slice ta TN tc) (pt s 0 [7] false) v' w') := by
                  have h1 := H2.out.put (by omega) 0 ⟨⟨0, [7], false⟩, some ⟨wr.heap.size, 0, none⟩, 1⟩ (by simp) (by simp)
                  refine Calls.mono h1 ?_
                  rintro e w' ⟨rfl, _, v', h⟩
                  have hps : pS s 0 [7] false = pt s 0 [7] false := by unfold pS; exact if_pos HFO.out.1
                  have hpn : pN s 0 [7] false = 1 := by unfold pN; exact (if_pos HFO.out.1).trans HFO.out.2.1
                  have hrf : rf s 0 ([7] : List Nat).length false = 0 := HFO.out.1
                  simp only at h ⊢
                  rw [hps] at h
                  rw [hpn, hrf]
                  exact ⟨_, _, v', rfl, h⟩
                clear hw2 hb2 hsg hsz H1 H2
                refine Calls.mono QP.out ?_
                rintro e3 w3 ⟨OL, SM, v3, rfl, h3⟩
                have H3 : Hid (HFr W H m (k + 1) [] [(⟨⟨0, [7], false⟩, some ⟨wr.heap.size, 0, none⟩, 1⟩ : TV)] (.slice ta TN tc) (pt s 0 [7] false) v3 w3) := h3
                clear QP h3
                go_wp2_with fail
                obtain ⟨f1, f2, f3, f4⟩ := HFO.out
                obtain ⟨w4, hw4⟩ : ∃ w4, w4 = w3.alloc (.cells #[.int .i64 1, .int .i64 OL, .bool SM] 33) := ⟨_, rfl⟩
                have hb4 : Below w3.heap.size w3 w4 := by rw [hw4]; exact (Below.refl _ _).alloc (Nat.le_refl _) _
                have hc4 : w4.cell? ⟨w3.heap.size, 0, none⟩ = some (.int .i64 1) := by rw [hw4, World.cell?_alloc_at _ _ _ _ rfl]; rfl
                have hF4 : w3.heap.size < w4.heap.size := by rw [hw4]; simp
                have H4 := H3.out.below hb4
                have QB : Hid _ := bytes_any w4 H (pt s 0 [7] false) v3 H4.own.hat (by rw [f4]; simp) true (decide_eq_true f3).symm
                rw [bz_t, f4] at QB
                have HO4 : Hid (Own1 W H m (k + 1) (pt s 0 [7] false) v3 w4) := H4.own
                rw [← hw4]
                clear hw4 hb4 H3 H4 f1 f2 f3 f4 HFO
                refine Calls.mono QB.out ?_
                rintro e5 w5 ⟨ua, un, uc, rfl, hul, hub, hb5⟩
                obtain rfl : un = 1 := by simpa using hul.symm
                have c5 : w5.cell? ⟨w3.heap.size, 0, none⟩ = some (.int .i64 1) := (World.cell?_of_block (hb5.block w3.heap.size hF4)).trans hc4
                obtain ⟨a', c', q1, hsg, _⟩ := owns_seg hub (k := .u8)
                simp only [Value.slice.injEq, true_and] at q1
                obtain ⟨rfl, rfl⟩ := q1
                obtain ⟨bb, bo, rfl, hcell⟩ := seg_at hsg 0 (by simp)
                have b0 : w5.cell? ⟨bb, bo, none⟩ = some (.int .u8 7) := hcell 0 (by simp)
                have b0' : w5.cell? ⟨bb, bo + 0, none⟩ = some (.int .u8 7) := b0
                have HBF : Hid (Below W.heap.size W w5) := (HO4.out.below hb5).bel
                clear QB hul hub hb5 hc4 hF4 hsg hcell HO4
                go_wp2
                (try rw [Exit.noGoto_ret])
                go_ret
                exact ⟨rfl, HBF.out⟩
              · have c0 : ((TN : Int) == 0) = false := by rw [beq_eq_false_iff_ne]; omega
                have hbl : s.bs.length ≤ 65535 := by have h1 := HW.out.2.inv.bl; have h2 := (HS.bd_le HW.out.2.inv).1; omega
                clear hT0
                by_cases hwh : 0 < s.en ∧ s.gp = []
                · have hlen := HW.out.2.len hwh
                  have QB : Hid _ := bytes_any wr H s v HW.out.1.own.hat hbl true (decide_eq_true hwh).symm
                  rw [bz_t] at QB
                  have he : eI s = (s.en : Int) := by unfold eI; rw [if_pos hwh.1]
                  obtain ⟨N, hN⟩ : ∃ N, N = s.en := ⟨_, rfl⟩
                  rw [← hN] at he
                  rw [hlen, ← hN] at QB
                  rw [he]
                  have HNE : Hid (N = s.en ∧ 0 < s.en ∧ s.gp = [] ∧ s.bs.length = N) := ⟨hN, hwh.1, hwh.2, by rw [hlen, hN]⟩
                  have hN5 : N ≤ 65535 := by omega
                  clear hlen he hN hwh hbl
                  go_wp2_with fail
                  refine Calls.mono QB.out ?_
                  rintro e5 w5 ⟨ba, bn, bc, rfl, hul, hub, hb5⟩
                  subst hul
                  have H5 : Hid (HFr W H m k L L (.slice ta TN tc) s v w5 ∧ FSt (L.map TV.tp) s) := ⟨HW.out.1.below hb5, HW.out.2⟩
                  obtain ⟨B, hB⟩ : ∃ B, B = wr.heap.size := ⟨_, rfl⟩
                  rw [← hB] at hub
                  clear hB
                  have HUB : Hid (w5.ownsRow B 5 1 (.slice ba N bc) N ((toI s.bs).map (Value.int .u8))) := hub
                  have g1 : ((N : Int) != (N : Int)) = false := by simp
                  clear QB hub hb5 HW
                  have HL : Hid (HFr W H m k L L (.slice ta TN tc) s v w5 ∧ w5.ownsRow B 5 1 (.slice ba N bc) N ((toI s.bs).map (Value.int .u8))) := ⟨H5.out.1, HUB.out⟩
                  have HFS : Hid (FSt (L.map TV.tp) s) := H5.out.2
                  clear H5 HUB
                  go_wp2
                  go_loopw [23] (fun ix wx => ∃ i : Nat, i ≤ N ∧ ix = .int .i64 (i : Int) ∧ Hid (HFr W H m k L L (.slice ta TN tc) s v wx ∧ wx.ownsRow B 5 1 (.slice ba N bc) N ((toI s.bs).map (Value.int .u8)))) (fun ix _ => N - (intOf ix).toNat)
                  case atStart => exact ⟨0, Nat.zero_le _, rfl, HL⟩
                  case round =>
                    obtain ⟨i, hi, rfl, HY⟩ := hrel
                    clear HL
                    by_cases hge : N ≤ i
                    · have d3 : ¬ (i : Int) < (N : Int) := by omega
                      clear hge
                      go_wp2
                      (try rw [Exit.noGoto_ret])
                      go_ret
                      exact ⟨rfl, HY.out.1.own.bel⟩
                    · have d3 : (i : Int) < (N : Int) := by omega
                      have hiN : i < N := by omega
                      clear hge
                      go_wp2
                      go_loopw [24] (fun ix wx => ∃ j : Nat, j ≤ TN ∧ ix = .int .i64 (j : Int) ∧ Hid (HFr W H m k L L (.slice ta TN tc) s v wx ∧ wx.ownsRow B 5 1 (.slice ba N bc) N ((toI s.bs).map (Value.int .u8))) ∧ Hid (∀ p, p ∈ L.take j → p.tp.cov i = false)) (fun ix _ => TN - (intOf ix).toNat)
                      case atStart => exact ⟨0, Nat.zero_le _, rfl, HY, fun p hp => by simp at hp⟩
                      case round =>
                        obtain ⟨j, hj, rfl, HZ, HC⟩ := hrel
                        clear HY
                        have hjL : j < L.length := HFS.out.there ⟨HNE.out.2.1, HNE.out.2.2.1⟩ i (by rw [← HNE.out.1]; exact hiN) j HC.out
                        have hjT : (j : Int) < (TN : Int) := by have := HTN.out; omega
                        obtain ⟨g, hga, c0, c1⟩ := tv_row HZ.out.1.row HTN.out j hjL
                        subst hga
                        obtain ⟨t, ht⟩ : ∃ t, t = L[j] := ⟨_, rfl⟩
                        rw [← ht] at c0 c1
                        obtain ⟨⟨o, d, mo⟩, xa, xc⟩ := t
                        simp only at c0 c1
                        obtain ⟨n, hn⟩ : ∃ n, n = d.length := ⟨_, rfl⟩
                        rw [← hn] at c1
                        have HT : Hid (∃ h : j < L.length, (⟨⟨o, d, mo⟩, xa, xc⟩ : TV) = L[j] ∧ n = d.length) := ⟨hjL, ht, hn⟩
                        have hon : o + n ≤ 65535 := by
                          have h1 := HFS.out.bl ⟨o, d, mo⟩ (List.mem_map.2 ⟨⟨⟨o, d, mo⟩, xa, xc⟩, by rw [ht]; exact List.getElem_mem hjL, rfl⟩)
                          simp only at h1
                          have h2 := HNE.out.2.2.2
                          omega
                        clear ht hn hjL hj
                        have w1 : IntKind.i64.wrap ((o : Int) + (n : Int)) = ((o + n : Nat) : Int) := by rw [IntKind.wrap_i64]; omega
                        go_upto_region 39 with fail
                        refine MixH.start (fun A => A.cell? ⟨g, j * 3, none⟩ = some (.int .i64 (o : Int)) ∧ A.cell? ⟨g, j * 3 + 1, none⟩ = some (.slice xa n xc)) (by kernel_rfl) ?_
                        obtain ⟨wA, hwA⟩ : ∃ wA, wA = wr.drew := ⟨_, rfl⟩
                        have hS : wA.cell? ⟨g, j * 3, none⟩ = some (.int .i64 (o : Int)) ∧ wA.cell? ⟨g, j * 3 + 1, none⟩ = some (.slice xa n xc) := by rw [hwA]; exact ⟨c0, c1⟩
                        have HA : Hid (HFr W H m k L L (.slice (some ⟨g, 0, none⟩) TN tc) s v wA ∧ wA.ownsRow B 5 1 (.slice ba N bc) N ((toI s.bs).map (Value.int .u8))) := by
                          have hbb : Below wr.heap.size wr wr.drew := drew_below (Below.refl _ _)
                          rw [hwA]
                          exact ⟨HZ.out.1.below hbb, (Ch.ofBelow (S := fun _ => False) hbb).owns HZ.out.2 (fun _ _ => id)⟩
                        rw [← hwA]
                        clear hwA c0 c1 HZ
                        by_cases hio : i < o
                        · have d4 : (i : Int) < (o : Int) := by omega
                          as_aux_lemma =>
                            refine MixH.takes [true, true, true, true, true, true, true, true, true, true] 19 (by kernel_rfl) (by kernel_rfl) (by decide) (by kernel_rfl) hS (fun K hK => ?_)
                            simp only [Mix.pick]
                            repeat (go_big_quiet_step (fail))
                            refine wpQuiet_nil (hK _ ?_)
                            clear hK K
                            refine MixH.take 18 10 _ (.int .i64 (o : Int)) rfl (by kernel_rfl) (by kernel_rfl) (by kernel_rfl) (by kernel_rfl) (yields_int (.tmp 232) rfl ⟨g, j * 3, none⟩ _ rfl rfl (fun A hA => hA.1)) hS (fun a' ha => ?_)
                            simp only [Act.put, List.setIfInBounds_toArray, List.set_cons_succ, List.set_cons_zero] at ha
                            subst ha
                            refine MixH.takes [false, false, false, false, false, false, false, false, false, false, false, true, true, true, true, true, true, true] 11 (by kernel_rfl) (by kernel_rfl) (by decide) (by kernel_rfl) hS (fun K hK => ?_)
                            simp only [Mix.pick]
                            repeat (go_big_quiet_step (fail))
                            refine wpQuiet_nil (hK _ ?_)
                            clear hK K
                            refine MixH.take 10 18 _ (undef) rfl (by kernel_rfl) (by kernel_rfl) (by kernel_rfl) (by kernel_rfl) (.inr ⟨rfl, rfl⟩) hS (fun a' ha => ?_)
                            simp only [Act.put, List.setIfInBounds_toArray, List.set_cons_succ, List.set_cons_zero] at ha
                            subst ha
                            refine MixH.takes [false, false, false, false, false, false, false, false, false, false, false, false, false, false, false, false, false, false, false, true, true, true, true] 6 (by kernel_rfl) (by kernel_rfl) (by decide) (by kernel_rfl) hS (fun K hK => ?_)
                            simp only [Mix.pick]
                            repeat (go_big_quiet_step (fail))
                            refine wpQuiet_nil (hK _ ?_)
                            clear hK K
                            refine MixH.take 5 23 _ (undef) rfl (by kernel_rfl) (by kernel_rfl) (by kernel_rfl) (by kernel_rfl) (.inr ⟨rfl, rfl⟩) hS (fun a' ha => ?_)
                            simp only [Act.put, List.setIfInBounds_toArray, List.set_cons_succ, List.set_cons_zero] at ha
                            subst ha
                            refine MixH.takes [false, false, false, false, false, false, false, false, false, false, false, false, false, false, false, false, false, false, false, false, false, false, false, false, true, true, true, true, true] 0 (by kernel_rfl) (by kernel_rfl) (by decide) (by kernel_rfl) hS (fun K hK => ?_)
                            simp only [Mix.pick]
                            repeat (go_big_quiet_step (fail))
                            refine wpQuiet_nil (hK _ ?_)
                            clear hK K
                            refine MixH.done (by kernel_rfl) ?_
                            clear hS w1
                            have HC2 : Hid (∀ p, p ∈ L.take (j + 1) → p.tp.cov i = false) := by
                              obtain ⟨h1, h2, h3⟩ := HT.out
                              refine take_next h1 HC.out ?_
                              rw [← h2]
                              exact decide_eq_false (by simp only; omega)
                            go_wp2
                            go_roundw
                            case rel => exact ⟨j + 1, by omega, by go_num, HA, HC2⟩
                            case measure => simp [intOf]; omega
                        · have d4 : ¬ (i : Int) < (o : Int) := by omega
                          by_cases hin : o + n ≤ i
                          · have d5 : ((o + n : Nat) : Int) ≤ (i : Int) := by omega
                            as_aux_lemma =>
                              refine MixH.takes [true, true, true, true, true, true, true, true, true, true] 19 (by kernel_rfl) (by kernel_rfl) (by decide) (by kernel_rfl) hS (fun K hK => ?_)
                              simp only [Mix.pick]
                              repeat (go_big_quiet_step (fail))
                              refine wpQuiet_nil (hK _ ?_)
                              clear hK K
                              refine MixH.take 18 10 _ (.int .i64 (o : Int)) rfl (by kernel_rfl) (by kernel_rfl) (by kernel_rfl) (by kernel_rfl) (yields_int (.tmp 232) rfl ⟨g, j * 3, none⟩ _ rfl rfl (fun A hA => hA.1)) hS (fun a' ha => ?_)
                              simp only [Act.put, List.setIfInBounds_toArray, List.set_cons_succ, List.set_cons_zero] at ha
                              subst ha
                              refine MixH.takes [false, false, false, false, false, false, false, false, false, false, false, true, true, true, true, true, true, true] 11 (by kernel_rfl) (by kernel_rfl) (by decide) (by kernel_rfl) hS (fun K hK => ?_)
                              simp only [Mix.pick]
                              repeat (go_big_quiet_step (fail))
                              refine wpQuiet_nil (hK _ ?_)
                              clear hK K
                              refine MixH.take 10 18 _ (.int .i64 (o : Int)) rfl (by kernel_rfl) (by kernel_rfl) (by kernel_rfl) (by kernel_rfl) (yields_int (.tmp 240) rfl ⟨g, j * 3, none⟩ _ rfl rfl (fun A hA => hA.1)) hS (fun a' ha => ?_)
                              simp only [Act.put, List.setIfInBounds_toArray, List.set_cons_succ, List.set_cons_zero] at ha
                              subst ha
                              refine MixH.takes [false, false, false, false, false, false, false, false, false, false, false, false, false, false, false, false, false, false, false, true, true, true, true] 6 (by kernel_rfl) (by kernel_rfl) (by decide) (by kernel_rfl) hS (fun K hK => ?_)
                              simp only [Mix.pick]
                              repeat (go_big_quiet_step (fail))
                              refine wpQuiet_nil (hK _ ?_)
                              clear hK K
                              refine MixH.take 5 23 _ (.slice xa n xc) rfl (by kernel_rfl) (by kernel_rfl) (by kernel_rfl) (by kernel_rfl) (yields_bytes (.tmp 245) rfl ⟨g, j * 3 + 1, none⟩ _ rfl rfl (fun A hA => hA.2)) hS (fun a' ha => ?_)
                              simp only [Act.put, List.setIfInBounds_toArray, List.set_cons_succ, List.set_cons_zero] at ha
                              subst ha
                              refine MixH.takes [false, false, false, false, false, false, false, false, false, false, false, false, false, false, false, false, false, false, false, false, false, false, false, false, true, true, true, true, true] 0 (by kernel_rfl) (by kernel_rfl) (by decide) (by kernel_rfl) hS (fun K hK => ?_)
                              simp only [Mix.pick]
                              repeat (go_big_quiet_step (fail))
                              refine wpQuiet_nil (hK _ ?_)
                              clear hK K
                              refine MixH.done (by kernel_rfl) ?_
                              clear hS w1
                              have HC2 : Hid (∀ p, p ∈ L.take (j + 1) → p.tp.cov i = false) := by
                                obtain ⟨h1, h2, h3⟩ := HT.out
                                refine take_next h1 HC.out ?_
                                rw [← h2]
                                exact decide_eq_false (by simp only; omega)
                              go_wp2
                              go_roundw
                              case rel => exact ⟨j + 1, by omega, by go_num, HA, HC2⟩
                              case measure => simp [intOf]; omega
                          · have d5 : ¬ ((o + n : Nat) : Int) ≤ (i : Int) := by omega
                            as_aux_lemma =>
                              refine MixH.takes [true, true, true, true, true, true, true, true, true, true] 19 (by kernel_rfl) (by kernel_rfl) (by decide) (by kernel_rfl) hS (fun K hK => ?_)
                              simp only [Mix.pick]
                              repeat (go_big_quiet_step (fail))
                              refine wpQuiet_nil (hK _ ?_)
                              clear hK K
                              refine MixH.take 18 10 _ (.int .i64 (o : Int)) rfl (by kernel_rfl) (by kernel_rfl) (by kernel_rfl) (by kernel_rfl) (yields_int (.tmp 232) rfl ⟨g, j * 3, none⟩ _ rfl rfl (fun A hA => hA.1)) hS (fun a' ha => ?_)
                              simp only [Act.put, List.setIfInBounds_toArray, List.set_cons_succ, List.set_cons_zero] at ha
                              subst ha
                              refine MixH.takes [false, false, false, false, false, false, false, false, false, false, false, true, true, true, true, true, true, true] 11 (by kernel_rfl) (by kernel_rfl) (by decide) (by kernel_rfl) hS (fun K hK => ?_)
                              simp only [Mix.pick]
                              repeat (go_big_quiet_step (fail))
                              refine wpQuiet_nil (hK _ ?_)
                              clear hK K
                              refine MixH.take 10 18 _ (.int .i64 (o : Int)) rfl (by kernel_rfl) (by kernel_rfl) (by kernel_rfl) (by kernel_rfl) (yields_int (.tmp 240) rfl ⟨g, j * 3, none⟩ _ rfl rfl (fun A hA => hA.1)) hS (fun a' ha => ?_)
                              simp only [Act.put, List.setIfInBounds_toArray, List.set_cons_succ, List.set_cons_zero] at ha
                              subst ha
                              refine MixH.takes [false, false, false, false, false, false, false, false, false, false, false, false, false, false, false, false, false, false, false, true, true, true, true] 6 (by kernel_rfl) (by kernel_rfl) (by decide) (by kernel_rfl) hS (fun K hK => ?_)
                              simp only [Mix.pick]
                              repeat (go_big_quiet_step (fail))
                              refine wpQuiet_nil (hK _ ?_)
                              clear hK K
                              refine MixH.take 5 23 _ (.slice xa n xc) rfl (by kernel_rfl) (by kernel_rfl) (by kernel_rfl) (by kernel_rfl) (yields_bytes (.tmp 245) rfl ⟨g, j * 3 + 1, none⟩ _ rfl rfl (fun A hA => hA.2)) hS (fun a' ha => ?_)
                              simp only [Act.put, List.setIfInBounds_toArray, List.set_cons_succ, List.set_cons_zero] at ha
                              subst ha
                              refine MixH.takes [false, false, false, false, false, false, false, false, false, false, false, false, false, false, false, false, false, false, false, false, false, false, false, false, true, true, true, true, true] 0 (by kernel_rfl) (by kernel_rfl) (by decide) (by kernel_rfl) hS (fun K hK => ?_)
                              simp only [Mix.pick]
                              repeat (go_big_quiet_step (fail))
                              refine wpQuiet_nil (hK _ ?_)
                              clear hK K
                              refine MixH.done (by kernel_rfl) ?_
                              obtain ⟨q, hq⟩ : ∃ q : Nat, i = o + q := ⟨i - o, by omega⟩
                              have hqn : q < n := by omega
                              obtain ⟨V, hV⟩ : ∃ V : Nat, V = s.bs.getD i 0 := ⟨_, rfl⟩
                              have hVq : V = d.getD q 0 := by
                                obtain ⟨h1, h2, h3⟩ := HT.out
                                have h4 := HFS.out.at i j h1 HC.out (by rw [← h2]; exact decide_eq_true (by simp only; omega))
                                rw [← h2] at h4
                                simp only at h4
                                rw [hV, h4, hq, Nat.add_sub_cancel_left]
                              have hsx : Seg .u8 wA xa (toI d) := by
                                obtain ⟨h1, h2, h3⟩ := HT.out
                                have := HA.out.1.seg L[j] (List.getElem_mem h1)
                                rw [← h2] at this
                                exact this
                              obtain ⟨xb, xo, rfl, hxc⟩ := seg_at hsx q (by have := HT.out.2.2; obtain ⟨_, _, h3⟩ := HT.out; omega)
                              have e2 := hxc q (by obtain ⟨_, _, h3⟩ := HT.out; omega)
                              obtain ⟨ba', bc', eq1, hsb, _, hbc, _⟩ := owns_seg HA.out.2 (k := .u8)
                              simp only [Value.slice.injEq, true_and] at eq1
                              obtain ⟨rfl, rfl⟩ := eq1
                              obtain ⟨bb, bo, rfl, hbx⟩ := seg_at hsb i (by have := HNE.out.2.2.2; omega)
                              have e1 := hbx i (by have := HNE.out.2.2.2; omega)
                              rw [← hV] at e1
                              rw [← hVq] at e2
                              have w2 : IntKind.i64.wrap ((i : Int) - (o : Int)) = (q : Int) := by rw [IntKind.wrap_i64]; omega
                              have d6 : (q : Int) < (n : Int) := by omega
                              have d7 : ((j : Int) == (TN : Int)) = false := by rw [beq_eq_false_iff_ne]; omega
                              have d8 : ((V : Int) != (V : Int)) = false := by simp
                              have d9 : (0 : Int) ≤ (q : Int) := by omega
                              obtain ⟨c0, c1⟩ := hS
                              clear hq hqn hV hVq hsx hxc hsb hbx hbc
                              go_upto_region 41 with fail
                              clear w1 d4 d5 hio hin
                              refine MixH.start (fun A => A.cell? ⟨bb, bo + i, none⟩ = some (.int .u8 (V : Int)) ∧ A.cell? ⟨g, j * 3 + 1, none⟩ = some (.slice (some ⟨xb, xo, none⟩) n xc) ∧ A.cell? ⟨g, j * 3, none⟩ = some (.int .i64 (o : Int)) ∧ A.cell? ⟨xb, xo + q, none⟩ = some (.int .u8 (V : Int))) (by kernel_rfl) ?_
                              obtain ⟨wB, hwB⟩ : ∃ wB, wB = wA.drew := ⟨_, rfl⟩
                              have hS : wB.cell? ⟨bb, bo + i, none⟩ = some (.int .u8 (V : Int)) ∧ wB.cell? ⟨g, j * 3 + 1, none⟩ = some (.slice (some ⟨xb, xo, none⟩) n xc) ∧ wB.cell? ⟨g, j * 3, none⟩ = some (.int .i64 (o : Int)) ∧ wB.cell? ⟨xb, xo + q, none⟩ = some (.int .u8 (V : Int)) := by rw [hwB]; exact ⟨e1, c1, c0, e2⟩
                              have HB : Hid (HFr W H m k L L (.slice (some ⟨g, 0, none⟩) TN tc) s v wB ∧ wB.ownsRow B 5 1 (.slice (some ⟨bb, bo, none⟩) N bc) N ((toI s.bs).map (Value.int .u8))) := by
                                have hbb : Below wA.heap.size wA wA.drew := drew_below (Below.refl _ _)
                                rw [hwB]
                                exact ⟨HA.out.1.below hbb, (Ch.ofBelow (S := fun _ => False) hbb).owns HA.out.2 (fun _ _ => id)⟩
                              rw [← hwB]
                              clear hwB c0 c1 e1 e2 HA
                              refine MixH.takes [true, true, true, true, true, true, true, true] 17 (by kernel_rfl) (by kernel_rfl) (by decide) (by kernel_rfl) hS (fun K hK => ?_)
                              simp only [Mix.pick]
                              repeat (go_big_quiet_step (fail))
                              refine wpQuiet_nil (hK _ ?_)
                              clear hK K
                              refine MixH.take 16 8 _ (.int .u8 (V : Int)) rfl (by kernel_rfl) (by kernel_rfl) (by kernel_rfl) (by kernel_rfl) (yields_u8 (.tmp 261) rfl ⟨bb, bo + i, none⟩ _ rfl rfl (fun A hA => hA.1)) hS (fun a' ha => ?_)
                              simp only [Act.put, List.setIfInBounds_toArray, List.set_cons_succ, List.set_cons_zero] at ha
                              subst ha
                              refine MixH.takes [false, false, false, false, false, false, false, false, false, true, true, true, true] 12 (by kernel_rfl) (by kernel_rfl) (by decide) (by kernel_rfl) hS (fun K hK => ?_)
                              simp only [Mix.pick]
                              repeat (go_big_quiet_step (fail))
                              refine wpQuiet_nil (hK _ ?_)
                              clear hK K
                              refine MixH.take 11 13 _ (.slice (some ⟨xb, xo, none⟩) n xc) rfl (by kernel_rfl) (by kernel_rfl) (by kernel_rfl) (by kernel_rfl) (yields_bytes (.tmp 266) rfl ⟨g, j * 3 + 1, none⟩ _ rfl rfl (fun A hA => hA.2.1)) hS (fun a' ha => ?_)
                              simp only [Act.put, List.setIfInBounds_toArray, List.set_cons_succ, List.set_cons_zero] at ha
                              subst ha
                              refine MixH.takes [false, false, false, false, false, false, false, false, false, false, false, false, false, false, true, true, true, true, true] 6 (by kernel_rfl) (by kernel_rfl) (by decide) (by kernel_rfl) hS (fun K hK => ?_)
                              simp only [Mix.pick]
                              repeat (go_big_quiet_step (fail))
                              refine wpQuiet_nil (hK _ ?_)
                              clear hK K
                              refine MixH.take 5 19 _ (.int .i64 (o : Int)) rfl (by kernel_rfl) (by kernel_rfl) (by kernel_rfl) (by kernel_rfl) (yields_int (.tmp 272) rfl ⟨g, j * 3, none⟩ _ rfl rfl (fun A hA => hA.2.2.1)) hS (fun a' ha => ?_)
                              simp only [Act.put, List.setIfInBounds_toArray, List.set_cons_succ, List.set_cons_zero] at ha
                              subst ha
                              refine MixH.takes [false, false, false, false, false, false, false, false, false, false, false, false, false, false, false, false, false, false, false, false, true, true] 3 (by kernel_rfl) (by kernel_rfl) (by decide) (by kernel_rfl) hS (fun K hK => ?_)
                              simp only [Mix.pick]
                              repeat (go_big_quiet_step (fail))
                              refine wpQuiet_nil (hK _ ?_)
                              clear hK K
                              refine MixH.take 2 22 _ (.int .u8 (V : Int)) rfl (by kernel_rfl) (by kernel_rfl) (by kernel_rfl) (by kernel_rfl) (yields_u8 (.tmp 275) rfl ⟨xb, xo + q, none⟩ _ rfl rfl (fun A hA => hA.2.2.2)) hS (fun a' ha => ?_)
                              simp only [Act.put, List.setIfInBounds_toArray, List.set_cons_succ, List.set_cons_zero] at ha
                              subst ha
                              refine MixH.takes [false, false, false, false, false, false, false, false, false, false, false, false, false, false, false, false, false, false, false, false, false, false, false, true, true] 0 (by kernel_rfl) (by kernel_rfl) (by decide) (by kernel_rfl) hS (fun K hK => ?_)
                              simp only [Mix.pick]
                              repeat (go_big_quiet_step (fail))
                              refine wpQuiet_nil (hK _ ?_)
                              clear hK K
                              refine MixH.done (by kernel_rfl) ?_
                              clear hS
                              go_wp2
                              go_roundw
                              case rel => exact ⟨i + 1, by omega, by go_num, HB⟩
                              case measure => simp [intOf]; omega
                · have QB : Hid _ := bytes_any wr H s v HW.out.1.own.hat hbl false (decide_eq_false hwh).symm
                  rw [bz_f] at QB
                  have QW : Hid (∀ (A : World) (v2 : HV), HAt A H s v2 → Calls Try.prog 15 #[.pointer (some ⟨H, 0, none⟩)] A fun r w' => r = .returned (.bool false) ∧ A = w') := by
                    intro A v2 hA
                    have := whole_any A H s v2 hA
                    rw [decide_eq_false hwh] at this
                    exact this
                  clear hwh hbl
                  go_wp2_with fail
                  refine Calls.mono QB.out ?_
                  rintro e5 w5 ⟨ba, bn, bc, rfl, hul, hub, hb5⟩
                  obtain rfl : bn = 0 := by simpa using hul.symm
                  have HO : Hid (Own1 W H m k s v w5) := HW.out.1.own.below hb5
                  clear QB hul hub hb5 HW
                  go_wp2_with fail
                  refine Calls.mono (QW.out _ _ HO.out.hat) ?_
                  rintro e6 w6 ⟨rfl, rfl⟩
                  clear QW
                  go_wp2
                  (try rw [Exit.noGoto_ret])
                  go_ret
                  exact ⟨rfl, HO.out.bel⟩
        · have hkl : k < len := by omega
          have hk2 : k < 120 := by omega
          have d1 : (k : Int) < (len : Int) := by omega
          have d2 : (k : Int) < 120 := by omega
          have hkx : k < ops.length := by rw [HLN.out]; exact hkl
          obtain ⟨pb, po, rfl, hpb, hok, hc0, hc1, hc2⟩ := pcs_at HPS.out k hkx
          obtain ⟨q, hq⟩ : ∃ q, q = ops[k]'hkx := ⟨_, rfl⟩
          rw [← hq] at hok hc0 hc1 hc2
          obtain ⟨off, qa, qc, qs, more⟩ := q
          simp only at hc0 hc1 hc2
          obtain ⟨qn, hqn⟩ : ∃ qn, qn = qs.length := ⟨_, rfl⟩
          rw [← hqn] at hc1
          have hbW := HW.out.1.own.bel
          have i0 : wr.cell? ⟨pb, po + k * 3, none⟩ = some (.int .i64 off) := (World.cell?_of_block (hbW.block pb hpb)).trans hc0
          have i1 : wr.cell? ⟨pb, po + k * 3 + 1, none⟩ = some (.slice qa qn qc) := (World.cell?_of_block (hbW.block pb hpb)).trans hc1
          have i2 : wr.cell? ⟨pb, po + k * 3 + 2, none⟩ = some (.bool more) := (World.cell?_of_block (hbW.block pb hpb)).trans hc2
          have HQN : Hid (qs.length = qn) := hqn.symm
          have HQC : Hid (qn ≤ qc) := by rw [hqn]; exact hok.le
          have HQS : Hid (Seg .u8 W qa (toI qs)) := hok.seg
          have HQ8 : Hid (∀ x ∈ qs, x < 256) := hok.b8
          clear hge hok hc0 hc1 hc2 hq hqn hkx hbW hkl
          go_upto_region 12 with fail
          obtain ⟨P, hP⟩ : ∃ P, P = wr.heap.size := ⟨_, rfl⟩
          obtain ⟨w1, hw1⟩ : ∃ w1, w1 = wr.alloc (.cells #[.int .i64 off, .slice qa qn qc, .bool more] 37) := ⟨_, rfl⟩
          obtain ⟨p0, p1, p2, pf⟩ := pc3_new wr (.int .i64 off) (.slice qa qn qc) (.bool more)
          rw [← hw1, ← hP] at p0 p1 p2 pf
          have hb1 : Below wr.heap.size wr w1 := by rw [hw1]; exact (Below.refl _ _).alloc (Nat.le_refl _) _
          have H1 : Hid (HFr W H m k L L (.slice ta TN tc) s v w1) := HW.out.1.below hb1
          have HPL : Hid (P < w1.heap.size ∧ (∀ x, HB H v x → x < P) ∧ (∀ q, (Value.slice ta TN tc).ownBlock = some q → q < P) ∧ (∀ p, p ∈ L → ∀ x, p.a = some x → p.tp.d ≠ [] → x.block < P) ∧ W.heap.size ≤ P) := by
            rw [hP]
            exact ⟨by rw [hw1]; simp, HW.out.1.own.hat.lt, fun q hq => (HW.out.1.row.lt q hq).2, fun p hp x hx hd => (HW.out.1.sep p hp x hx hd).1, HW.out.1.own.bel.size⟩
          have HFS : Hid (FSt (L.map TV.tp) s) := HW.out.2
          rw [← hP, ← hw1]
          have QC : Hid _ := cut_any w1 qa qn qc qs HQN.out HQC.out (HQS.out.old H1.out.own.bel)
          clear hw1 hP hb1 HW i0 i1 i2 HQS HQC HQN
          obtain ⟨d, hd⟩ : ∃ d, d = qs.take 4096 := ⟨_, rfl⟩
          rw [← hd] at QC
          obtain ⟨n, hn⟩ : ∃ n, n = d.length := ⟨_, rfl⟩
          have HN : Hid (n = d.length) := hn
          have hn4 : n ≤ 4096 := by rw [hn, hd, List.length_take]; omega
          have HD8 : Hid (∀ x, x ∈ d → x < 256) := by rw [hd]; exact fun x hx => HQ8.out x (List.mem_of_mem_take hx)
          rw [← hn] at QC
          clear hd hn HQ8
          go_wp2_with fail
          refine Calls.mono QC.out ?_
          rintro e2 w2 ⟨ua, uc, rfl, hoB, hbB⟩
          have HU : Hid (n ≤ uc ∧ w1.heap.size ≤ w2.heap.size) := by
            obtain ⟨_, _, e1, _, _, hcl, _⟩ := owns_seg hoB (k := .u8)
            simp only [Value.slice.injEq, true_and] at e1
            obtain ⟨rfl, rfl⟩ := e1
            exact ⟨hcl, hbB.size⟩
          have H2 : Hid (HFr W H m k L (L ++ [⟨⟨off.toNat, d, more⟩, ua, uc⟩]) (.slice ta TN tc) s v w2) := by
            have ho := hoB
            rw [HN.out] at ho
            exact H1.out.cut hbB ⟨off.toNat, d, more⟩ ua uc ho HD8.out
          have HUB : Hid (∀ x, ua = some x → w1.heap.size ≤ x.block) := fun x hx => (hoB.lt x.block (by rw [hx]; rfl)).1
          have p0' := (World.cell?_of_block (hbB.block P HPL.out.1)).trans p0
          have p1' := (World.cell?_of_block (hbB.block P HPL.out.1)).trans p1
          have p2' := (World.cell?_of_block (hbB.block P HPL.out.1)).trans p2
          have pf' : w2.frozen? ⟨P, 1, none⟩ = false := (World.frozen?_of_block (hbB.block P HPL.out.1)).trans pf
          clear QC hoB hbB p0 p1 p2 pf H1
          obtain ⟨w3, hw3⟩ : ∃ w3, w3 = w2.setCell ⟨P, 1, none⟩ (.slice ua n uc) := ⟨_, rfl⟩
          have k3 : Ch (fun q => q = P) w2 w3 := by rw [hw3]; exact (Ch.refl _ _).set _ _ rfl
          have H3 : Hid (HFr W H m k L (L ++ [⟨⟨off.toNat, d, more⟩, ua, uc⟩]) (.slice ta TN tc) s v w3) := by
            have hh := HPL.out
            refine H2.out.ch k3 (fun x hx e => ?_) (fun q hq e => ?_) (fun p hp x hx hd e => ?_) (fun x e => ?_)
            · have e' : x = P := e; have := hh.2.1 x hx; omega
            · have e' : q = P := e; have := hh.2.2.1 q hq; omega
            · have e' : x.block = P := e
              rcases List.mem_append.1 hp with q | q
              · have := hh.2.2.2.1 p q x hx hd; omega
              · simp only [List.mem_singleton] at q
                subst q
                have := HUB.out x hx
                have := hh.1
                omega
            · have e' : x = P := e; rw [e']; exact hh.2.2.2.2
          have r0 : w3.cell? ⟨P, 0, none⟩ = some (.int .i64 off) := by rw [hw3, cell_ne _ _ _ _ _ (by omega)]; exact p0'
          have r1 : w3.cell? ⟨P, 1, none⟩ = some (.slice ua n uc) := by rw [hw3]; exact World.cell?_setCell_same _ _ _ p1'
          have r2 : w3.cell? ⟨P, 2, none⟩ = some (.bool more) := by rw [hw3, cell_ne _ _ _ _ _ (by omega)]; exact p2'
          have HW3 : Hid (w2.setCell ⟨P, 1, none⟩ (.slice ua n uc) = w3) := hw3.symm
          have hP3 : P < w3.heap.size := by have h1 := HPL.out.1; have h2 := HU.out.2; have h3 := k3.size; omega
          go_upto_region 13 with fail
          rw [HW3.out]
          clear hw3 k3 p0' p1' p2' pf' H2 HW3
          obtain ⟨bd, hbd⟩ : ∃ bd, bd = s.bd := ⟨_, rfl⟩
          obtain ⟨Z, hZ⟩ : ∃ Z, Z = sm s.gp := ⟨_, rfl⟩
          obtain ⟨G, hG⟩ : ∃ G, G = s.gp.length := ⟨_, rfl⟩
          have HBZ : Hid (bd = s.bd ∧ Z = sm s.gp ∧ G = s.gp.length) := ⟨hbd, hZ, hG⟩
          have hbd5 : bd ≤ 65535 := by rw [hbd]; exact (HS.bd_le H3.out.own.inv).1
          have hZb : Z ≤ bd := by have := H3.out.own.inv.ris.sum; rw [hZ, hbd]; exact Nat.le_trans this (Nat.sub_le _ _)
          have hG5 : G ≤ 65535 := by have := H3.out.own.inv.ris.len; rw [hG]; omega
          have QH : Hid (∀ (A : World) (v2 : HV), HAt A H s v2 → Calls Try.prog 19 #[.pointer (some ⟨H, 0, none⟩)] A fun r w' => r = .returned (.int .i64 ((bd : Int) - (Z : Int))) ∧ Below A.heap.size A w') := by
            intro A v2 hA
            rw [hbd, hZ]
            exact held_any A H s v2 hA H3.out.own.inv
          have QG : Hid (∀ (A : World) (v2 : HV), HAt A H s v2 → Calls Try.prog 17 #[.pointer (some ⟨H, 0, none⟩)] A fun r w' => ∃ ga gc, r = .returned (.slice ga G gc) ∧ w'.ownsRow A.heap.size 45 2 (.slice ga G gc) G (gC s.gp) ∧ Below A.heap.size A w') := by
            intro A v2 hA
            refine (gaps_any A H s v2 hA (by rw [← hG]; exact hG5)).mono ?_
            rintro e w' ⟨u, rfl, h1, h2⟩
            obtain ⟨ga, gc, rfl⟩ := owns_shape h1
            rw [← hG] at h1 ⊢
            exact ⟨ga, gc, rfl, h1, h2⟩
          clear hbd hZ hG
          go_wp2_with fail
          refine Calls.mono (QH.out _ _ H3.out.own.hat) ?_
          rintro e4 w4 ⟨rfl, hb4⟩
          have H4 : Hid (HFr W H m k L (L ++ [⟨⟨off.toNat, d, more⟩, ua, uc⟩]) (.slice ta TN tc) s v w4) := H3.out.below hb4
          have s0 := (World.cell?_of_block (hb4.block P hP3)).trans r0
          have s1 := (World.cell?_of_block (hb4.block P hP3)).trans r1
          have s2 := (World.cell?_of_block (hb4.block P hP3)).trans r2
          have hP4 : P < w4.heap.size := Nat.lt_of_lt_of_le hP3 hb4.size
          clear hb4 r0 r1 r2 H3 hP3
          go_wp2_with fail
          refine Calls.mono (QG.out _ _ H4.out.own.hat) ?_
          rintro e5 w5 ⟨ga, gc, rfl, hog, hb5⟩
          have H5 : Hid (HFr W H m k L (L ++ [⟨⟨off.toNat, d, more⟩, ua, uc⟩]) (.slice ta TN tc) s v w5) := H4.out.below hb5
          have HOG : Hid (w5.ownsRow w4.heap.size 45 2 (.slice ga G gc) G (gC s.gp) ∧ ∀ x, HB H v x → x < w4.heap.size) := ⟨hog, H4.out.own.hat.lt⟩
          have t0 := (World.cell?_of_block (hb5.block P hP4)).trans s0
          have t1 := (World.cell?_of_block (hb5.block P hP4)).trans s1
          have t2 := (World.cell?_of_block (hb5.block P hP4)).trans s2
          have hP5 : P < w5.heap.size := Nat.lt_of_lt_of_le hP4 hb5.size
          have QP : Hid (Calls Try.prog 13 #[.pointer (some ⟨H, 0, none⟩), .int .i64 off, .slice ua n uc, .bool more] w5 fun r w' => r = .returned (.tuple #[.agg #[.int .i64 (pN s off d more : Nat), .int .i64 (pO s off d more), .bool (pM s off d more)], .int .i64 (rf s off n more)]) ∧ Ch (HB H v) w5 w' ∧ ∃ v', HFr W H m (k + 1) L (L ++ [⟨⟨off.toNat, d, more⟩, ua, uc⟩]) (.slice ta TN tc) (pS s off d more) v' w') := by
            have := H5.out.put (by omega) off ⟨⟨off.toNat, d, more⟩, ua, uc⟩ (by simp) (by simp only; rw [← HN.out]; exact HU.out.1)
            simp only at this
            rw [← HN.out] at this
            exact this
          clear hog hb5 s0 s1 s2 H4 hP4 HU
          go_wp2_with fail
          refine Calls.mono QP.out ?_
          rintro e6 w6 ⟨rfl, hch, v', h6⟩
          have H6 : Hid (HFr W H m (k + 1) L (L ++ [⟨⟨off.toNat, d, more⟩, ua, uc⟩]) (.slice ta TN tc) (pS s off d more) v' w6) := h6
          have HPB : Hid (¬ HB H v P) := fun q => by have := HPL.out.2.1 P q; omega
          have u0 := hch.cell t0 HPB.out
          have u1 := hch.cell t1 HPB.out
          have u2 := hch.cell t2 HPB.out
          have HOG6 : Hid (w6.ownsRow w4.heap.size 45 2 (.slice ga G gc) G (gC s.gp)) := hch.owns HOG.out.1 (fun g hg q => by have h1 := (HOG.out.1.lt g hg).1; have h2 := HOG.out.2 g q; omega)
          have hP6 : P < w6.heap.size := Nat.lt_of_lt_of_le hP5 hch.size
          clear QP h6 hch t0 t1 t2 H5 HOG hP5 HPB
          obtain ⟨NW, hNW⟩ : ∃ NW, NW = pN s off d more := ⟨_, rfl⟩
          obtain ⟨OL, hOL⟩ : ∃ OL, OL = pO s off d more := ⟨_, rfl⟩
          obtain ⟨SM, hSM⟩ : ∃ SM, SM = pM s off d more := ⟨_, rfl⟩
          obtain ⟨E, hE⟩ : ∃ E, E = rf s off n more := ⟨_, rfl⟩
          rw [← hNW, ← hOL, ← hSM, ← hE]
          have HFI : Hid (NW = pN s off d more ∧ OL = pO s off d more ∧ SM = pM s off d more ∧ E = rf s off n more) := ⟨hNW, hOL, hSM, hE⟩
          clear hNW hOL hSM hE
          go_upto_region 15 with fail
          obtain ⟨F, hF⟩ : ∃ F, F = w6.heap.size := ⟨_, rfl⟩
          obtain ⟨w7, hw7⟩ : ∃ w7, w7 = w6.alloc (.cells #[.int .i64 (NW : Int), .int .i64 OL, .bool SM] 33) := ⟨_, rfl⟩
          have hb7 : Below w6.heap.size w6 w7 := by rw [hw7]; exact (Below.refl _ _).alloc (Nat.le_refl _) _
          have HFT : Hid (FtAt w7 F #[.int .i64 (NW : Int), .int .i64 OL, .bool SM]) := by rw [hw7, hF]; exact FtAt_new _ _
          rw [← hF, ← hw7]
          have H7 : Hid (HFr W H m (k + 1) L (L ++ [⟨⟨off.toNat, d, more⟩, ua, uc⟩]) (.slice ta TN tc) (pS s off d more) v' w7) := H6.out.below hb7
          have x0 := (World.cell?_of_block (hb7.block P hP6)).trans u0
          have x1 := (World.cell?_of_block (hb7.block P hP6)).trans u1
          have x2 := (World.cell?_of_block (hb7.block P hP6)).trans u2
          have HOG7 : Hid (w7.ownsRow w4.heap.size 45 2 (.slice ga G gc) G (gC s.gp)) := (Ch.ofBelow (S := fun _ => False) hb7).owns HOG6.out (fun _ _ => id)
          have hP7 : P < w7.heap.size := Nat.lt_of_lt_of_le hP6 hb7.size
          clear hF hw7 hb7 H6 u0 u1 u2 HOG6 hP6
          by_cases hr : E = 0
          · as_aux_lemma =>
              have hE0 : (E != 0) = false := by rw [hr]; rfl
              have hrf : rf s off d.length more = 0 := by rw [← HN.out, ← HFI.out.2.2.2]; exact hr
              obtain ⟨o, ho, hok, _⟩ := rf_ok hrf
              subst ho
              have hps : pS s (o : Int) d more = pt s o d more := by unfold pS; rw [if_pos hrf, Int.toNat_natCast]
              obtain ⟨s', hs'⟩ : ∃ s', s' = pt s o d more := ⟨_, rfl⟩
              rw [hps, ← hs'] at H7
              have HF2 : Hid (FSt ((L ++ [(⟨⟨(o : Int).toNat, d, more⟩, ua, uc⟩ : TV)]).map TV.tp) s') := by
                show FSt _ _
                have e0 : (L ++ [(⟨⟨(o : Int).toNat, d, more⟩, ua, uc⟩ : TV)]).map TV.tp = L.map TV.tp ++ [⟨o, d, more⟩] := by rw [List.map_append]; rfl
                rw [e0, hs']
                exact HFS.out.step hok HD8.out
              have hNW : NW = fN o (o + d.length) s.gp := by rw [HFI.out.1]; unfold pN; rw [if_pos hrf, Int.toNat_natCast]
              have hOL : OL = (n : Int) - (NW : Int) := by rw [HFI.out.2.1]; unfold pO; rw [if_pos hrf, Int.toNat_natCast, ← hNW, HN.out]
              have hq3 := (pt_inv HFS.out.inv hok HD8.out).2.2
              rw [← hs', ← hNW, ← HBZ.out.1, ← HBZ.out.2.1] at hq3
              have hNn : NW ≤ n := by rw [hNW, HN.out]; have := fN_le (o := o) (e := o + d.length) (by omega) HFS.out.inv.ris; omega
              have hn1 : 1 ≤ n := by rw [HN.out]; exact hok.n1
              have ho6 : o + n ≤ 65535 := by have h1 := hok.fit; have h2 := HFS.out.inv.m2; rw [← HN.out] at h1; omega
              obtain ⟨bd2, hbd2⟩ : ∃ bd2, bd2 = s'.bd := ⟨_, rfl⟩
              obtain ⟨Z2, hZ2⟩ : ∃ Z2, Z2 = sm s'.gp := ⟨_, rfl⟩
              rw [← hbd2, ← hZ2] at hq3
              have HI2 : Hid (Inv s') := HF2.out.inv
              have hbd25 : bd2 ≤ 65535 := by rw [hbd2]; exact (HS.bd_le HI2.out).1
              have hZ2b : Z2 ≤ bd2 := by have := HI2.out.ris.sum; rw [hZ2, hbd2]; exact Nat.le_trans this (Nat.sub_le _ _)
              have QH2 : Hid (∀ (A : World) (v2 : HV), HAt A H s' v2 → Calls Try.prog 19 #[.pointer (some ⟨H, 0, none⟩)] A fun r w' => r = .returned (.int .i64 ((bd2 : Int) - (Z2 : Int))) ∧ Below A.heap.size A w') := by
                intro A v2 hA
                rw [hbd2, hZ2]
                exact held_any A H s' v2 hA HI2.out
              have HEI : Hid (eI s' = if (!more && decide (eI s < 0)) = true then ((o + n : Nat) : Int) else eI s) := by
                show eI s' = _
                have hen : s'.en = if more = true then s.en else o + d.length := by rw [hs']; rfl
                unfold eI
                rw [hen, ← HN.out]
                cases more with
                | true => simp
                | false =>
                  simp only [Bool.false_eq_true, if_false, Bool.not_false, Bool.true_and]
                  rw [if_pos (by omega)]
                  by_cases q : 0 < s.en
                  · have h1 := hok.b q rfl
                    rw [← HN.out] at h1
                    rw [if_pos q, decide_eq_false (by omega), if_neg (by simp), h1]
                  · rw [if_neg q, decide_eq_true (by omega), if_pos rfl]
              have HB2 : Hid (bd2 = s'.bd ∧ Z2 = sm s'.gp) := ⟨hbd2, hZ2⟩
              have g1 : IntKind.i64.wrap ((NW : Int) + OL) = (n : Int) := by rw [IntKind.wrap_i64]; omega
              have g2 : ((n : Int) != (n : Int)) = false := by simp
              have g3 : IntKind.i64.wrap ((bd : Int) - (Z : Int) + (NW : Int)) = (bd2 : Int) - (Z2 : Int) := by rw [IntKind.wrap_i64]; omega
              have g4 : (((bd2 : Int) - (Z2 : Int)) != ((bd2 : Int) - (Z2 : Int))) = false := by simp
              have g5 : ((n : Int) == 0) = false := by rw [beq_eq_false_iff_ne]; omega
              have HOL : Hid (OL = (n : Int) - (NW : Int)) := hOL
              clear hr hrf hps hs' hNW hOL hq3 hbd2 hZ2 hok HFI QH QG HOG7 HFS
              go_upto_region 18 with fail
              refine MixH.start (fun A => A.cell? ⟨P, 1, none⟩ = some (.slice ua n uc) ∧ FtAt A F #[.int .i64 (NW : Int), .int .i64 OL, .bool SM]) (by kernel_rfl) ?_
              obtain ⟨w8, hw8⟩ : ∃ w8, w8 = w7.drew := ⟨_, rfl⟩
              have hS : w8.cell? ⟨P, 1, none⟩ = some (.slice ua n uc) ∧ FtAt w8 F #[.int .i64 (NW : Int), .int .i64 OL, .bool SM] := by rw [hw8]; exact ⟨x1, HFT.out⟩
              have H8 : Hid (HFr W H m (k + 1) L (L ++ [(⟨⟨(o : Int).toNat, d, more⟩, ua, uc⟩ : TV)]) (.slice ta TN tc) s' v' w8) := by rw [hw8]; exact H7.out.below (drew_below (Below.refl _ _))
              replace x0 : w8.cell? ⟨P, 0, none⟩ = some (.int .i64 (o : Int)) := by rw [hw8]; exact x0
              replace x2 : w8.cell? ⟨P, 2, none⟩ = some (.bool more) := by rw [hw8]; exact x2
              have hP8 : P < w8.heap.size := by rw [hw8]; exact hP7
              rw [← hw8]
              clear hw8 H7 HFT x1
              refine MixH.takes [true, false, true, false, false, true] 21 (by kernel_rfl) (by kernel_rfl) (by decide) (by kernel_rfl) hS (fun K hK => ?_)
              simp only [Mix.pick]
              repeat (go_big_quiet_step (fail))
              refine wpQuiet_nil (hK _ ?_)
              clear hK K
              refine MixH.take 20 1 _ (.int .i64 (NW : Int)) rfl (by kernel_rfl) (by kernel_rfl) (by kernel_rfl) (by kernel_rfl) (yields_int (.tmp 93) rfl ⟨F, 0, none⟩ _ rfl rfl (fun A hA => (FtAt.cell hA.2 0).trans rfl)) hS (fun a' ha => ?_)
              simp only [Act.put, List.setIfInBounds_toArray, List.set_cons_succ, List.set_cons_zero] at ha
              subst ha
              refine MixH.take 19 3 _ (.int .i64 OL) rfl (by kernel_rfl) (by kernel_rfl) (by kernel_rfl) (by kernel_rfl) (yields_int (.tmp 95) rfl ⟨F, 1, none⟩ _ rfl rfl (fun A hA => (FtAt.cell hA.2 1).trans rfl)) hS (fun a' ha => ?_)
              simp only [Act.put, List.setIfInBounds_toArray, List.set_cons_succ, List.set_cons_zero] at ha
              subst ha
              refine MixH.take 18 6 _ (.slice ua n uc) rfl (by kernel_rfl) (by kernel_rfl) (by kernel_rfl) (by kernel_rfl) (yields_bytes (.tmp 98) rfl ⟨P, 1, none⟩ _ rfl rfl (fun A hA => hA.1)) hS (fun a' ha => ?_)
              simp only [Act.put, List.setIfInBounds_toArray, List.set_cons_succ, List.set_cons_zero] at ha
              subst ha
              refine MixH.takes [false, false, false, false, true, false, false, true, true, true, true, false, true, true] 11 (by kernel_rfl) (by kernel_rfl) (by decide) (by kernel_rfl) hS (fun K hK => ?_)
              simp only [Mix.pick]
              repeat (go_big_quiet_step (fail))
              refine wpQuiet_nil (hK _ ?_)
              clear hK K
              refine MixH.take 10 14 _ (.int .i64 (NW : Int)) rfl (by kernel_rfl) (by kernel_rfl) (by kernel_rfl) (by kernel_rfl) (yields_int (.tmp 106) rfl ⟨F, 0, none⟩ _ rfl rfl (fun A hA => (FtAt.cell hA.2 0).trans rfl)) hS (fun a' ha => ?_)
              simp only [Act.put, List.setIfInBounds_toArray, List.set_cons_succ, List.set_cons_zero] at ha
              subst ha
              refine MixH.takes [false, false, false, false, false, false, false, false, false, false, false, false, false, false, false, true] 9 (by kernel_rfl) (by kernel_rfl) (by decide) (by kernel_rfl) hS (fun K hK => ?_)
              simp only [Mix.pick]
              repeat (go_big_quiet_step (fail))
              refine wpQuiet_nil (hK _ ?_)
              clear hK K
              refine MixH.one [false, false, false, false, false, false, false, false, false, false, false, true] 8 11 _ rfl rfl (by kernel_rfl) (by kernel_rfl) (fun K hK => ?_)
              simp only [Mix.pick]
              go_wp2_with fail
              refine Calls.mono (QH2.out _ _ H8.out.own.hat) ?_
              rintro e9 w9 ⟨rfl, hb9⟩
              have H9 : Hid (HFr W H m (k + 1) L (L ++ [(⟨⟨(o : Int).toNat, d, more⟩, ua, uc⟩ : TV)]) (.slice ta TN tc) s' v' w9) := H8.out.below hb9
              have y0 := (World.cell?_of_block (hb9.block P hP8)).trans x0
              have y2 := (World.cell?_of_block (hb9.block P hP8)).trans x2
              replace hS : w9.cell? ⟨P, 1, none⟩ = some (.slice ua n uc) ∧ FtAt w9 F #[.int .i64 (NW : Int), .int .i64 OL, .bool SM] := ⟨(World.cell?_of_block (hb9.block P hP8)).trans hS.1, FtAt.below hS.2 hb9⟩
              clear hb9 H8 x0 x2
              go_wp2
              refine ⟨rfl, hK _ _ hS ?_⟩
              clear hK K
              refine MixH.takes [false, false, false, false, false, false, false, false, false, false, false, false, false, false, false, false, true, true, true, true] 4 (by kernel_rfl) (by kernel_rfl) (by decide) (by kernel_rfl) hS (fun K hK => ?_)
              simp only [Mix.pick]
              repeat (go_big_quiet_step (fail))
              refine wpQuiet_nil (hK _ ?_)
              clear hK K
              refine MixH.take 3 20 _ (.slice ua n uc) rfl (by kernel_rfl) (by kernel_rfl) (by kernel_rfl) (by kernel_rfl) (yields_bytes (.tmp 112) rfl ⟨P, 1, none⟩ _ rfl rfl (fun A hA => hA.1)) hS (fun a' ha => ?_)
              simp only [Act.put, List.setIfInBounds_toArray, List.set_cons_succ, List.set_cons_zero] at ha
              subst ha
              refine MixH.takes [false, false, false, false, false, false, false, false, false, false, false, false, false, false, false, false, false, false, false, false, false, true, true, true] 0 (by kernel_rfl) (by kernel_rfl) (by decide) (by kernel_rfl) hS (fun K hK => ?_)
              simp only [Mix.pick]
              repeat (go_big_quiet_step (fail))
              refine wpQuiet_nil (hK _ ?_)
              clear hK K
              refine MixH.done (by kernel_rfl) ?_
              have y1 := hS.1
              clear hS g1 g3
              obtain ⟨i9, hi9, hz0, hz1, hz2⟩ := info_parts Try.infoPiece
              have hrw := H9.out.row
              rw [← HTN.out] at hrw
              have hsz := H9.out.own.bel.size
              have HP9 : Hid (P < w9.heap.size) := World.block_lt_of_cell? w9 _ y1
              go_wp2_with (first | (at_builtin; refine wpList_append_own_at _ rfl (.tmp 117) (.tmp 119) 25 rfl W.heap.size 37 i9 _ 3 40 Try.underlying25 hi9 hz0 hz1 hz2 rfl (by decide) _ _ _ rfl (hrw.alloc _) ⟨w9.heap.size, 0, none⟩ 1 1 [.int .i64 (o : Int), .slice ua n uc, .bool more] rfl rfl ?f1 ?f2 ?f3 ?f4 ?f5 ?_))
              case f1 => exact three_new _ _ _ _
              case f2 => intro u hu; simp at hu; rcases hu with rfl | rfl | rfl <;> rfl
              case f3 => unfold maxLen; omega
              case f4 => omega
              case f5 => simp; omega
              intro vA wA q1 q2 _ q4
              obtain ⟨ta2, tc2, hvA⟩ := owns_shape q1
              subst hvA
              have HA : Hid (HFr W H m (k + 1) (L ++ [(⟨⟨(o : Int).toNat, d, more⟩, ua, uc⟩ : TV)]) (L ++ [(⟨⟨(o : Int).toNat, d, more⟩, ua, uc⟩ : TV)]) (.slice ta2 (TN + 1) tc2) s' v' wA) := by
                have hbb : Below w9.heap.size w9 (w9.alloc (.cells #[.int .i64 (o : Int), .slice ua n uc, .bool more] 37)) := (Below.refl _ _).alloc (Nat.le_refl _) _
                refine (H9.out.below hbb).app (by rw [List.length_append, ← HTN.out]; simp; omega) ?_ q2 (by simpa using q4)
                have e1 : (L ++ [((⟨⟨(o : Int).toNat, d, more⟩, ua, uc⟩ : TV) : TV)]).length = TN + 1 := by rw [List.length_append, ← HTN.out]; rfl
                rw [e1, tvC_app]
                have e2 : tv1 (⟨⟨(o : Int).toNat, d, more⟩, ua, uc⟩ : TV) = [.int .i64 (o : Int), .slice ua n uc, .bool more] := by unfold tv1; simp only [Int.toNat_natCast]; rw [HN.out]
                rw [e2]
                exact q1
              have HPA : Hid (wA.cell? ⟨P, 0, none⟩ = some (.int .i64 (o : Int)) ∧ wA.cell? ⟨P, 1, none⟩ = some (.slice ua n uc) ∧ wA.cell? ⟨P, 2, none⟩ = some (.bool more)) := by
                have hc : Ch (fun q => (Value.slice ta TN tc).ownBlock = some q) w9 wA := (Ch.ofBelow (S := fun q => (Value.slice ta TN tc).ownBlock = some q) ((Below.refl _ _).alloc (Nat.le_refl _) _)).trans (Ch.ofGrown q2) (fun _ _ q => q)
                have hne : ¬ (Value.slice ta TN tc).ownBlock = some P := fun q => by have := HPL.out.2.2.1 P q; omega
                exact ⟨hc.cell y0 hne, hc.cell y1 hne, hc.cell y2 hne⟩
              obtain ⟨z0, z1, z2⟩ := HPA.out
              clear q1 q2 q4 hrw y0 y1 y2 H9 hsz HPA
              obtain ⟨EV, hEV⟩ : ∃ EV, EV = eI s := ⟨_, rfl⟩
              rw [← hEV] at HEI ⊢
              clear hEV
              go_upto_region 21 with fail
              go_cut [127] (fun x wx => x = .bool (!more && decide (EV < 0)) ∧ wA = wx)
              case first =>
                cases more with
                | true =>
                  go_wp2
                  go_meet
                  exact ⟨rfl, rfl⟩
                | false =>
                  go_wp2
                  go_meet
                  exact ⟨rfl, rfl⟩
              case rest =>
                obtain ⟨rfl, rfl⟩ := hcut
                go_upto_if 127 with fail
                obtain ⟨E2, hE2⟩ : ∃ E2, E2 = eI s' := ⟨_, rfl⟩
                have HE2 : Hid (E2 = eI s') := hE2
                rw [← hE2] at HEI
                clear hE2
                go_cut [8] (fun x wx => x = .int .i64 E2 ∧ wA = wx)
                case first =>
                  have j1 : IntKind.i64.wrap ((o : Int) + (n : Int)) = ((o + n : Nat) : Int) := by rw [IntKind.wrap_i64]; omega
                  cases hb : (!more && decide (EV < 0)) with
                  | true =>
                    have HX : Hid (E2 = ((o + n : Nat) : Int)) := by have := HEI.out; rw [hb, if_pos rfl] at this; exact this
                    clear hb HEI
                    go_wp2
                    go_meet
                    exact ⟨by rw [HX.out]; first | rfl | simp, rfl⟩
                  | false =>
                    have HX : Hid (E2 = EV) := by have := HEI.out; rw [hb, if_neg (by simp)] at this; exact this
                    clear hb HEI
                    go_wp2
                    go_meet
                    exact ⟨by rw [HX.out], rfl⟩
                case rest =>
                  obtain ⟨rfl, rfl⟩ := hcut
                  have QT := total_any wA H s' v' HA.out.own.hat
                  have HQT : Hid _ := QT
                  clear QT HEI z0 z1 z2
                  go_wp2_with fail
                  refine Calls.mono HQT.out ?_
                  rintro eB wB ⟨rfl, hbB⟩
                  have HB : Hid (HFr W H m (k + 1) (L ++ [(⟨⟨(o : Int).toNat, d, more⟩, ua, uc⟩ : TV)]) (L ++ [(⟨⟨(o : Int).toNat, d, more⟩, ua, uc⟩ : TV)]) (.slice ta2 (TN + 1) tc2) s' v' wB ∧ FSt ((L ++ [(⟨⟨(o : Int).toNat, d, more⟩, ua, uc⟩ : TV)]).map TV.tp) s') := ⟨HA.out.below hbB, HF2.out⟩
                  clear HQT hbB HA
                  by_cases hk2' : 0 < s'.en
                  · have he2 : E2 = (s'.en : Int) := by rw [HE2.out]; unfold eI; rw [if_pos hk2']
                    rw [decide_eq_true hk2', he2]
                    have HWW : Hid (decide (0 < s'.en ∧ s'.gp = []) = decide (bd2 - Z2 = s'.en)) := by
                      show _ = _
                      congr 1
                      apply propext
                      rw [HB2.out.1, HB2.out.2, held_whole HI2.out hk2']
                      exact ⟨fun q => q.2, fun q => ⟨hk2', q⟩⟩
                    have HEE : Hid (E2 = (s'.en : Int)) := he2
                    have QW := whole_any wB H s' v' HB.out.1.own.hat
                    rw [HWW.out] at QW
                    have HQW : Hid _ := QW
                    have l1 : (0 : Int) ≤ (s'.en : Int) := by omega
                    have l2 : ((s'.en : Int) != (s'.en : Int)) = false := by simp
                    clear QW HWW hk2' he2
                    go_wp2_with fail
                    refine Calls.mono HQW.out ?_
                    rintro eC wC ⟨rfl, rfl⟩
                    clear HQW
                    go_wp2_with fail
                    refine Calls.mono (QH2.out _ _ HB.out.1.own.hat) ?_
                    rintro eD wD ⟨rfl, hbD⟩
                    have HD : Hid (HFr W H m (k + 1) (L ++ [(⟨⟨(o : Int).toNat, d, more⟩, ua, uc⟩ : TV)]) (L ++ [(⟨⟨(o : Int).toNat, d, more⟩, ua, uc⟩ : TV)]) (.slice ta2 (TN + 1) tc2) s' v' wD ∧ FSt ((L ++ [(⟨⟨(o : Int).toNat, d, more⟩, ua, uc⟩ : TV)]).map TV.tp) s') := ⟨HB.out.1.below hbD, HB.out.2⟩
                    clear hbD HB QH2
                    by_cases hq : bd2 - Z2 = s'.en
                    · have l3 : (((bd2 : Int) - (Z2 : Int)) == (s'.en : Int)) = true := by rw [beq_iff_eq]; omega
                      rw [decide_eq_true hq]
                      clear hq
                      go_wp2
                      go_roundw
                      case rel => exact ⟨k + 1, _, s', v', by omega, by go_num, by rw [← HE2.out, HEE.out], HD⟩
                      case measure => simp [intOf]; omega
                    · have l3 : (((bd2 : Int) - (Z2 : Int)) == (s'.en : Int)) = false := by rw [beq_eq_false_iff_ne]; omega
                      rw [decide_eq_false hq]
                      clear hq
                      go_wp2
                      go_roundw
                      case rel => exact ⟨k + 1, _, s', v', by omega, by go_num, by rw [← HE2.out, HEE.out], HD⟩
                      case measure => simp [intOf]; omega
                  · have he2 : E2 = -1 := by rw [HE2.out]; unfold eI; rw [if_neg hk2']
                    rw [decide_eq_false hk2', he2]
                    have HEE : Hid (E2 = -1) := he2
                    have QW := whole_any wB H s' v' HB.out.1.own.hat
                    rw [decide_eq_false (fun q => hk2' q.1)] at QW
                    have HQW : Hid _ := QW
                    clear QW hk2' he2
                    go_wp2_with fail
                    refine Calls.mono HQW.out ?_
                    rintro eC wC ⟨rfl, rfl⟩
                    clear HQW
                    go_wp2
                    go_roundw
                    case rel => exact ⟨k + 1, _, s', v', by omega, by go_num, by rw [← HE2.out, HEE.out], HB⟩
                    case measure => simp [intOf]; omega
          · as_aux_lemma =>
              have hE0 : (E != 0) = true := by rw [bne_iff_ne]; exact hr
              have hrf : rf s off d.length more ≠ 0 := by rw [← HN.out, ← HFI.out.2.2.2]; exact hr
              have hps : pS s off d more = s := by unfold pS; rw [if_neg hrf]
              have e1 : NW = 0 := by rw [HFI.out.1]; unfold pN; rw [if_neg hrf]
              have e2 : OL = 0 := by rw [HFI.out.2.1]; unfold pO; rw [if_neg hrf]
              have e3 : SM = false := by rw [HFI.out.2.2.1]; unfold pM; rw [decide_eq_false hrf]; rfl
              subst e1 e2 e3
              rw [hps] at H7
              have hft : FtAt w7 F #[.int .i64 ((0 : Nat) : Int), .int .i64 0, .bool false] := HFT.out
              have hself : (((bd : Int) - (Z : Int)) != ((bd : Int) - (Z : Int))) = false := by simp
              clear hr hrf hps HFI x0 x1 x2
              go_wp2_with (first | (refine wpList_load_Ft (.tmp 13) rfl F _ rfl rfl hft rfl ?_) | (refine wpList_neq_fit (.tmp 77) (.tmp 78) rfl 0 0 false rfl rfl rfl ?_))
              refine Calls.mono (QH.out _ _ H7.out.own.hat) ?_
              rintro e8 w8 ⟨rfl, hb8⟩
              have H8 : Hid (HFr W H m (k + 1) L (L ++ [⟨⟨off.toNat, d, more⟩, ua, uc⟩]) (.slice ta TN tc) s v' w8) := H7.out.below hb8
              have HOG8 : Hid (w8.ownsRow w4.heap.size 45 2 (.slice ga G gc) G (gC s.gp)) := (Ch.ofBelow (S := fun _ => False) hb8).owns HOG7.out (fun _ _ => id)
              clear hb8 H7 HOG7 hft HFT QH
              go_wp2_with fail
              refine Calls.mono (QG.out _ _ H8.out.own.hat) ?_
              rintro e9 w9 ⟨gb2, gc2, rfl, hog2, hb9⟩
              have H9 : Hid (HFr W H m (k + 1) L (L ++ [⟨⟨off.toNat, d, more⟩, ua, uc⟩]) (.slice ta TN tc) s v' w9) := H8.out.below hb9
              have HOG9 : Hid (w9.ownsRow w4.heap.size 45 2 (.slice ga G gc) G (gC s.gp)) := (Ch.ofBelow (S := fun _ => False) hb9).owns HOG8.out (fun _ _ => id)
              have QS : Hid _ := sameG_any w9 gb2 ga G gc2 gc w8.heap.size w4.heap.size s.gp HBZ.out.2.2.symm hG5 hog2 HOG9.out
              clear hb9 H8 HOG8 QG hog2
              go_wp2_with fail
              refine Calls.mono QS.out ?_
              rintro eA wA ⟨rfl, hbA⟩
              have HA : Hid (HFr W H m (k + 1) L L (.slice ta TN tc) s v' wA ∧ FSt (L.map TV.tp) s) := ⟨(H9.out.below hbA).drop (fun p hp => List.mem_append.2 (.inl hp)), HFS.out⟩
              clear hbA H9 HOG9 QS
              go_wp2
              go_roundw
              case rel => exact ⟨k + 1, L, s, v', by omega, by go_num, rfl, HA⟩
              case measure => simp [intOf]; omega

end Go.Proofs.Ytfahfbpobmpccaa
