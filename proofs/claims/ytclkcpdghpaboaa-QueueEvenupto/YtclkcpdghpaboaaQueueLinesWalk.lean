/-
  QueueLines: the walk.
-/
import Derived.Test.YtclkcpdghpaboaaQB5
namespace Go.Proofs.Ytclkcpdghpaboaa
open Go.RowKit Go.ChangeShapes Go.WideShapes

theorem op_at2 {w w' : World} {a : Option Addr} {ops : List OV} (h : ListG 5 ocL OpOk w a ops) (b : Below w.heap.size w w') (i : Nat) (hi : i < ops.length) : ∃ o : OV, ops[i]? = some o ∧ OpOk o ∧ ∃ g off, a = some ⟨g, off, none⟩ ∧ w'.rangeAt g (off + i * 5) (opC o).toList := by
  obtain ⟨hok, g, off, ha, hlt, hc⟩ := (ListG.old h b).at i ops[i] (List.getElem?_eq_getElem hi)
  refine ⟨ops[i], List.getElem?_eq_getElem hi, hok, g, off, ha, fun j v hj => ?_⟩
  have hj' : j < 5 := (List.getElem?_eq_some_iff.1 hj).1
  rw [hc j hj']
  exact hj
theorem push_first2 {ls : List LI} (h : nwB ls = true) : pushE (c0s ls) 0 1 = 0 := by
  simp only [nwB, Bool.and_eq_true, decide_eq_true_eq, List.all_eq_true] at h
  have hl : (c0s ls).length = ls.length := by unfold c0s; exact List.length_map ..
  unfold pushE
  rw [if_pos (by rw [hl]; omega), if_pos (by omega), if_pos]
  cases ls with
  | nil => simp at h
  | cons l r =>
    have h1 := lmB_ok (h.2 l List.mem_cons_self)
    have h2 := h1.it
    have h3 := h1.by'
    show room ⟨l, [], l.bu⟩ 1 = true
    unfold room
    simp [szL]
    omega
theorem push_len2 (cs : List CL) (i s n : Int) : (pushCs cs i s n).length = cs.length := by
  unfold pushCs
  split
  · exact List.length_set ..
  · rfl
theorem OpvAt.all {w : World} {O : Nat} {x : OV} (h : OpvAt w O x) : w.rangeAt O 0 (opC x).toList := by
  have e := OpvAt.range h 0 (opC x).size
  rwa [Nat.zero_add, Array.extract_size] at e
set_option maxHeartbeats 12800000 in
set_option maxRecDepth 100000 in
theorem queueLines.walk (w : World) (a : Option Addr) (n cap : Nat) (ls : List LI) (hl : ls.length = n) (hs : ListG 5 liL LiW w a ls) (hn : n ≤ 1048576) (b : Option Addr) (len bcap : Nat) (ops : List OV) (hl2 : ops.length = len) (hs2 : ListG 5 ocL OpOk w b ops) (hn2 : len ≤ 1048576) : Calls Try.prog 7 #[.slice a n cap, .slice b len bcap] w fun e w' => e = .returned (.bool true) ∧ Below w.heap.size w w' := by
  have HS : Hid (ListG 5 ocL OpOk w b ops ∧ ops.length = len ∧ len ≤ 1048576) := ⟨hs2, hl2, hn2⟩
  have HK : Hid (LsK w w a ls) := LsK.first hs
  have QO : Hid _ := queueOf_any w a n cap ls w hl HK.out (by omega) (Below.refl _ _)
  obtain ⟨l2, hl2e⟩ : ∃ l2, l2 = qls ls := ⟨_, rfl⟩
  have HNB : Hid (nwB l2 = true) := by show _ = _; rw [hl2e]; exact qls_ok ls
  rw [← hl2e] at QO
  clear hl hs hn hl2 hs2 hn2 hl2e HK
  go_enter Try.func7, Try.ntmps7
  go_wp2_with fail
  refine Calls.mono QO.out ?_
  rintro e1 w1 ⟨P, G, a1, c1, rfl, q1, b1, hP, hG, lk1⟩
  obtain ⟨m, hm⟩ : ∃ m, l2.length = m := ⟨_, rfl⟩
  have hm8 : 1 ≤ m ∧ m ≤ 8 := by have h1 := q1.len; rw [List.length_map, hm] at h1; exact h1
  rw [hm]
  have H1 : Hid (Q1 w P G (c0s l2) tz w1 ∧ LsK w w1 a1 l2 ∧ l2.length = m) := ⟨⟨_, csOf_mk l2, q1, b1, mk_out hP hG⟩, lk1, hm⟩
  clear q1 b1 hP hG lk1 QO hm
  go_wp2_with fail
  refine Calls.mono (book_any m hm8.2 w1) ?_
  rintro e2 w2 ⟨B, lv, bv, sv, rfl, k2, b2⟩
  have H2 : Hid (QL w P G (c0s l2) tz B lv bv sv (List.replicate m m0) (c0s l2) a1 l2 w2 ∧ (c0s l2).length = m) := by
    have h1 := QL.first (H1.out.1.below b2) (by rw [H1.out.2.2]; exact k2.mono H1.out.1.bel.size) ((H1.out.2.1).keep H1.out.1.bel (H1.out.1.below b2).bel (Kp.ofBelow b2))
    rw [H1.out.2.2] at h1
    exact ⟨h1, by unfold c0s; rw [List.length_map, H1.out.2.2]⟩
  clear k2 b2 H1
  go_upto_region 6 with (first | (refine wpList_alloc_opv rfl rfl ?_) | (refine wpList_store_opv (.tmp 7) (.tmp 26) rfl rfl w2.heap.size oz ⟨0, false, 0, 1, -4⟩ rfl rfl (opv_new w2 oz) rfl ?_; intro w3 h3 k3))
  have b3 : Below w2.heap.size w2 w3 := boxed_below k3 (fun q e => by have e' : q = w2.heap.size := e; omega)
  obtain ⟨O7, hO7⟩ : ∃ O, w2.heap.size = O := ⟨_, rfl⟩
  rw [hO7] at h3 ⊢
  have H3 : Hid (QL w P G (c0s l2) tz B lv bv sv (List.replicate m m0) (c0s l2) a1 l2 w3 ∧ (c0s l2).length = m ∧ OpvAt w3 O7 ⟨0, false, 0, 1, -4⟩) := ⟨H2.out.1.below b3, H2.out.2, h3⟩
  clear h3 k3 b3 hO7 H2
  simp only [Act.put, List.setIfInBounds_toArray, List.set_cons_succ, List.set_cons_zero]
  refine MixH.start (fun A => OpvAt A O7 ⟨0, false, 0, 1, -4⟩) (by kernel_rfl) ?_
  obtain ⟨wA, hwA⟩ : ∃ W_, W_ = w3.drew := ⟨_, rfl⟩
  have bdr : Below w3.heap.size w3 wA := by rw [hwA]; exact (Below.refl _ _).drew
  have HA : Hid (QL w P G (c0s l2) tz B lv bv sv (List.replicate m m0) (c0s l2) a1 l2 wA ∧ (c0s l2).length = m) := ⟨H3.out.1.below bdr, H3.out.2.1⟩
  have hS : OpvAt wA O7 ⟨0, false, 0, 1, -4⟩ := H3.out.2.2.below bdr
  have QP : Hid _ := HA.out.1.push 0 1 (-4)
  rw [push_first2 HNB.out] at QP
  rw [← hwA]
  clear hwA bdr
  refine MixH.takes [true, true, false, true] 11 (by kernel_rfl) (by kernel_rfl) (by decide) (by kernel_rfl) hS (fun K hK => ?_)
  simp only [Mix.pick]
  repeat (go_big_quiet_step (fail))
  refine wpQuiet_nil (hK _ ?_)
  clear hK K
  refine MixH.take 10 2 _ (.agg (opC ⟨0, false, 0, 1, -4⟩)) rfl (by kernel_rfl) (by kernel_rfl) (by kernel_rfl) (by kernel_rfl) (yields_opv (.tmp 7) rfl O7 0 ⟨0, false, 0, 1, -4⟩ rfl rfl (fun A hA => OpvAt.all hA)) hS (fun a' ha => ?_)
  simp only [Act.put, List.setIfInBounds_toArray, List.set_cons_succ, List.set_cons_zero] at ha
  subst ha
  refine MixH.one [false, false, false, false, true] 9 4 _ rfl rfl (by kernel_rfl) (by kernel_rfl) (fun K hK => ?_)
  simp only [Mix.pick]
  go_wp2_with fail
  refine Calls.mono (QP.out) ?_
  rintro e4 w4 ⟨rfl, q4, k4⟩
  have H4 : Hid (QL w P G (pushCs (c0s l2) 0 1 (-4)) tz B lv bv sv (List.replicate m m0) (c0s l2) a1 l2 w4) := q4
  replace hS : OpvAt w4 O7 ⟨0, false, 0, 1, -4⟩ := k4.2 _ _ hS
  have QD : Hid _ := H4.out.pushed HA.out.1.q.ok m c1 HA.out.2 0 0 1 (-4) 0 false (push_first2 HNB.out).symm
  clear q4 k4 QP
  go_wp2_with fail
  refine ⟨rfl, hK _ _ hS ?_⟩
  clear hK K
  refine MixH.one [false, false, false, false, false, true] 8 5 _ rfl rfl (by kernel_rfl) (by kernel_rfl) (fun K hK => ?_)
  simp only [Mix.pick]
  go_wp2_with fail
  refine Calls.mono (num_any 0 w4) ?_
  rintro e5 w5 ⟨rfl, rfl⟩
  skip
  go_wp2_with fail
  refine ⟨rfl, hK _ _ hS ?_⟩
  clear hK K
  refine MixH.one [false, false, false, false, false, false, true] 7 6 _ rfl rfl (by kernel_rfl) (by kernel_rfl) (fun K hK => ?_)
  simp only [Mix.pick]
  go_wp2_with fail
  refine Calls.mono (QD.out) ?_
  rintro e6 w6 ⟨rfl, ms6, q6, s6, k6⟩
  have H6 : Hid (QL w P G (pushCs (c0s l2) 0 1 (-4)) tz B lv bv sv ms6 (pushCs (c0s l2) 0 1 (-4)) a1 l2 w6 ∧ Sv 0 ms6 ∧ (pushCs (c0s l2) 0 1 (-4)).length = m) := ⟨q6, (Sv.zero m).same s6, by rw [push_len2]; exact HA.out.2⟩
  replace hS : OpvAt w6 O7 ⟨0, false, 0, 1, -4⟩ := k6.2 _ _ hS
  clear q6 s6 k6 QD H4
  go_wp2_with fail
  refine ⟨rfl, hK _ _ hS ?_⟩
  clear hK K
  refine MixH.takes [false, false, false, false, false, false, false, true, true, true, true] 3 (by kernel_rfl) (by kernel_rfl) (by decide) (by kernel_rfl) hS (fun K hK => ?_)
  simp only [Mix.pick]
  repeat (go_big_quiet_step (fail))
  refine wpQuiet_nil (hK _ ?_)
  clear hK K
  refine MixH.one [false, false, false, false, false, false, false, false, false, false, false, true] 2 11 _ rfl rfl (by kernel_rfl) (by kernel_rfl) (fun K hK => ?_)
  simp only [Mix.pick]
  go_wp2_with fail
  refine Calls.mono (H6.out.1.agrees) ?_
  rintro e7 w7 ⟨rfl, q7, b7⟩
  have H7 : Hid (QL w P G (pushCs (c0s l2) 0 1 (-4)) tz B lv bv sv ms6 (pushCs (c0s l2) 0 1 (-4)) a1 l2 w7 ∧ Sv (65535 * (0 : Int)) ms6 ∧ (pushCs (c0s l2) 0 1 (-4)).length = m) := ⟨q7, H6.out.2.1.mono (by omega), H6.out.2.2⟩
  replace hS : OpvAt w7 O7 ⟨0, false, 0, 1, -4⟩ := hS.below b7
  clear q7 b7
  go_wp2_with fail
  refine ⟨rfl, hK _ _ hS ?_⟩
  clear hK K
  refine MixH.takes [false, false, false, false, false, false, false, false, false, false, false, false, true, true] 0 (by kernel_rfl) (by kernel_rfl) (by decide) (by kernel_rfl) hS (fun K hK => ?_)
  simp only [Mix.pick]
  repeat (go_big_quiet_step (fail))
  refine wpQuiet_nil (hK _ ?_)
  clear hK K
  refine MixH.done (by kernel_rfl) ?_
  clear hS HA H3 H6
  go_wp2_with fail
  go_loopw [8] (fun ix wr => ∃ (i : Nat) (cs : List CL) (t : TN) (ms : List BM), ix = .int .i64 (i : Nat) ∧ i ≤ len ∧ Hid (QL w P G cs t B lv bv sv ms cs a1 l2 wr ∧ Sv (65535 * (i : Int)) ms ∧ cs.length = m)) (fun ix _ => len - (intOf ix).toNat)
  case atStart => exact ⟨0, _, _, _, rfl, Nat.zero_le _, H7.out⟩
  case round =>
    obtain ⟨i, cs, t, ms, rfl, hi, ST⟩ := hrel
    clear H7
    by_cases hlt : i < len
    · have k0 : (0 : Int) ≤ (i : Int) := by omega
      have k1 : (i : Int) < (len : Int) := by omega
      have k2 : ((i : Int)).toNat = i := by omega
      have wi : IntKind.i64.wrap ((i : Int) + 1) = (i : Int) + 1 := by have := HS.out.2.2; exact i64_s _ (by omega) (by omega)
      obtain ⟨⟨kd, tw, oc, os, oi⟩, _, hok, g, off, rfl, hrg⟩ := op_at2 HS.out.1 ST.out.1.q.bel i (by rw [HS.out.2.1]; exact hlt)
      have HRG : Hid (wr.rangeAt g (off + i * 5) (opC ⟨kd, tw, oc, os, oi⟩).toList) := hrg
      have HLT : Hid (i < len ∧ len ≤ 1048576) := ⟨hlt, HS.out.2.2⟩
      clear hrg hi hlt hok
      go_wp2_with (first | (refine wpList_mid_opv (.tmp 49) rfl g (off + i * 5) ⟨kd, tw, oc, os, oi⟩ rfl HRG.out rfl ?_) | (refine wpList_alloc_opv rfl rfl ?_) | (refine wpList_store_opv (.tmp 9) (.tmp 50) rfl rfl wr.heap.size oz ⟨kd, tw, oc, os, oi⟩ rfl rfl (opv_new wr oz) rfl ?_))
      intro x1 h1 kk1
      have bx : Below wr.heap.size wr x1 := boxed_below kk1 (fun q e => by have e' : q = wr.heap.size := e; omega)
      obtain ⟨O9, hO9⟩ : ∃ O, wr.heap.size = O := ⟨_, rfl⟩
      rw [hO9] at h1 ⊢
      have S1 : Hid (QL w P G cs t B lv bv sv ms cs a1 l2 x1 ∧ OpvAt x1 O9 ⟨kd, tw, oc, os, oi⟩ ∧ Sv (65535 * (i : Int)) ms ∧ cs.length = m) := ⟨ST.out.1.below bx, h1, ST.out.2.1, ST.out.2.2⟩
      clear h1 kk1 bx hO9 HRG ST
      have c0 : x1.cell? ⟨O9, 0, none⟩ = some (.int .i64 kd) := S1.out.2.1.cell 0
      by_cases h1 : kd = 1
      · have q1 : (kd == 1) = true := by simpa using h1
        clear h1
        go_upto_region 14 with fail
        clear c0
        refine MixH.start (fun A => OpvAt A O9 ⟨kd, tw, oc, os, oi⟩) (by kernel_rfl) ?_
        obtain ⟨wA, hwA⟩ : ∃ W_, W_ = x1.drew := ⟨_, rfl⟩
        have bdr : Below x1.heap.size x1 wA := by rw [hwA]; exact (Below.refl _ _).drew
        have SA : Hid (QL w P G cs t B lv bv sv ms cs a1 l2 wA ∧ Sv (65535 * (i : Int)) ms ∧ cs.length = m) := ⟨S1.out.1.below bdr, S1.out.2.2.1, S1.out.2.2.2⟩
        have hS : OpvAt wA O9 ⟨kd, tw, oc, os, oi⟩ := S1.out.2.1.below bdr
        obtain ⟨pe, hpe⟩ : ∃ pe, pushE cs oc os = pe := ⟨_, rfl⟩
        have QP : Hid _ := SA.out.1.push oc os oi
        rw [hpe] at QP
        have HPE : Hid (pe = pushE cs oc os) := hpe.symm
        clear hpe
        rw [← hwA]
        clear hwA bdr
        refine MixH.takes [true, true, false, true, true, false, true, false, true] 8 (by kernel_rfl) (by kernel_rfl) (by decide) (by kernel_rfl) hS (fun K hK => ?_)
        simp only [Mix.pick]
        repeat (go_big_quiet_step (fail))
        refine wpQuiet_nil (hK _ ?_)
        clear hK K
        refine MixH.take 7 2 _ (.agg (opC ⟨kd, tw, oc, os, oi⟩)) rfl (by kernel_rfl) (by kernel_rfl) (by kernel_rfl) (by kernel_rfl) (yields_opv (.tmp 9) rfl O9 0 ⟨kd, tw, oc, os, oi⟩ rfl rfl (fun A hA => OpvAt.all hA)) hS (fun a' ha => ?_)
        simp only [Act.put, List.setIfInBounds_toArray, List.set_cons_succ, List.set_cons_zero] at ha
        subst ha
        refine MixH.take 6 5 _ (.int .i64 oc) rfl (by kernel_rfl) (by kernel_rfl) (by kernel_rfl) (by kernel_rfl) (yields_int (.tmp 59) rfl ⟨O9, 2, none⟩ (.int .i64 oc) rfl rfl (fun A hA => OpvAt.cell hA 2)) hS (fun a' ha => ?_)
        simp only [Act.put, List.setIfInBounds_toArray, List.set_cons_succ, List.set_cons_zero] at ha
        subst ha
        refine MixH.take 5 7 _ (.int .i64 os) rfl (by kernel_rfl) (by kernel_rfl) (by kernel_rfl) (by kernel_rfl) (yields_int (.tmp 61) rfl ⟨O9, 3, none⟩ (.int .i64 os) rfl rfl (fun A hA => OpvAt.cell hA 3)) hS (fun a' ha => ?_)
        simp only [Act.put, List.setIfInBounds_toArray, List.set_cons_succ, List.set_cons_zero] at ha
        subst ha
        refine MixH.take 4 9 _ (.int .i64 oi) rfl (by kernel_rfl) (by kernel_rfl) (by kernel_rfl) (by kernel_rfl) (yields_int (.tmp 63) rfl ⟨O9, 4, none⟩ (.int .i64 oi) rfl rfl (fun A hA => OpvAt.cell hA 4)) hS (fun a' ha => ?_)
        simp only [Act.put, List.setIfInBounds_toArray, List.set_cons_succ, List.set_cons_zero] at ha
        subst ha
        refine MixH.one [false, false, false, false, false, false, false, false, false, false, true] 3 10 _ rfl rfl (by kernel_rfl) (by kernel_rfl) (fun K hK => ?_)
        simp only [Mix.pick]
        go_wp2_with fail
        refine Calls.mono (QP.out) ?_
        rintro e4 w4 ⟨rfl, q4, k4⟩
        have H4 : Hid (QL w P G (pushCs cs oc os oi) t B lv bv sv ms cs a1 l2 w4) := q4
        replace hS : OpvAt w4 O9 ⟨kd, tw, oc, os, oi⟩ := k4.2 _ _ hS
        have QD : Hid _ := H4.out.pushed SA.out.1.q.ok m c1 SA.out.2.2 kd oc os oi pe tw HPE.out
        clear q4 k4 QP
        go_wp2_with fail
        refine ⟨rfl, hK _ _ hS ?_⟩
        clear hK K
        refine MixH.one [false, false, false, false, false, false, false, false, false, false, false, true] 2 11 _ rfl rfl (by kernel_rfl) (by kernel_rfl) (fun K hK => ?_)
        simp only [Mix.pick]
        go_wp2_with fail
        refine Calls.mono (num_any pe w4) ?_
        rintro e5 w5 ⟨rfl, rfl⟩
        skip
        go_wp2_with fail
        refine ⟨rfl, hK _ _ hS ?_⟩
        clear hK K
        refine MixH.one [false, false, false, false, false, false, false, false, false, false, false, false, true] 1 12 _ rfl rfl (by kernel_rfl) (by kernel_rfl) (fun K hK => ?_)
        simp only [Mix.pick]
        go_wp2_with fail
        refine Calls.mono (QD.out) ?_
        rintro e6 w6 ⟨rfl, ms6, q6, s6, k6⟩
        have H6 : Hid (QL w P G (pushCs cs oc os oi) t B lv bv sv ms6 (pushCs cs oc os oi) a1 l2 w6 ∧ Sv (65535 * (i : Int)) ms6 ∧ (pushCs cs oc os oi).length = m) := ⟨q6, SA.out.2.1.same s6, by rw [push_len2]; exact SA.out.2.2⟩
        replace hS : OpvAt w6 O9 ⟨kd, tw, oc, os, oi⟩ := k6.2 _ _ hS
        clear q6 s6 k6 QD H4
        go_wp2_with fail
        refine ⟨rfl, hK _ _ hS ?_⟩
        clear hK K
        refine MixH.takes [false, false, false, false, false, false, false, false, false, false, false, false, false, true] 0 (by kernel_rfl) (by kernel_rfl) (by decide) (by kernel_rfl) hS (fun K hK => ?_)
        simp only [Mix.pick]
        repeat (go_big_quiet_step (fail))
        refine wpQuiet_nil (hK _ ?_)
        clear hK K
        refine MixH.done (by kernel_rfl) ?_
        clear hS SA S1
        go_upto_region 23 with fail
        go_wp2_with fail
        refine Calls.mono H6.out.1.agrees ?_
        rintro ez xz ⟨rfl, qz, bz⟩
        have HZ : Hid (QL w P G (pushCs cs oc os oi) t B lv bv sv ms6 (pushCs cs oc os oi) a1 l2 xz ∧ Sv (65535 * ((i : Int) + 1)) ms6 ∧ ((pushCs cs oc os oi)).length = m) := ⟨qz, H6.out.2.1.mono (by have := HLT.out; omega), H6.out.2.2⟩
        clear qz bz
        go_wp2_with fail
        go_roundw
        case rel => exact ⟨i + 1, _, _, _, by first | rfl | go_num, by have := HLT.out; omega, HZ.out.1, by have h1 := HZ.out.2.1; rw [show (((i + 1 : Nat)) : Int) = (i : Int) + 1 by omega]; exact h1, HZ.out.2.2⟩
        case measure => have := HLT.out; simp [intOf]; omega
      · have q1 : (kd == 1) = false := by simpa using h1
        by_cases h2 : kd = 2
        · have q2 : (kd == 2) = true := by simpa using h2
          clear h1 h2
          obtain ⟨pn, hpn⟩ : ∃ pn, popN cs t = pn := ⟨_, rfl⟩
          obtain ⟨pc, hpc⟩ : ∃ pc, popC cs t = pc := ⟨_, rfl⟩
          have QK : Hid _ := S1.out.1.peek
          rw [hpn, hpc] at QK
          cases hpb : anyR cs with
          | true =>
            rw [hpb] at QK
            obtain ⟨j, x, M', hj, hr, hL, e1, e2, e3⟩ := pop_at S1.out.1.q.ok hpb
            rw [hpn] at e1
            rw [hpc] at e2
            subst e1 e2
            have HJ : Hid (j < cs.length ∧ (cAt cs j).L = x :: M' ∧ popQ cs t = cs.set j (takeC (cAt cs j)) ∧ anyR cs = true ∧ popN cs t = x.1 ∧ popC cs t = (j : Int)) := ⟨hj, hL, e3, hpb, hpn, hpc⟩
            clear hj hr hL e3 hpb hpn hpc
            obtain ⟨y, hy⟩ : ∃ y, x.1 = y := ⟨_, rfl⟩
            have HY : Hid (x.1 = y) := hy
            rw [hy] at QK
            clear hy
            have hn1 : ((y : Int) != y) = false := by simp
            have hn2 : (((j : Nat) : Int) != (j : Int)) = false := by simp
            go_wp2_with fail
            refine Calls.mono QK.out ?_
            rintro e4 w4 ⟨rfl, q4, b4⟩
            have H4 : Hid (QL w P G cs t B lv bv sv ms cs a1 l2 w4) := q4
            have QP : Hid _ := H4.out.pop
            rw [HJ.out.2.2.2.1, HJ.out.2.2.2.2.1, HJ.out.2.2.2.2.2, HY.out] at QP
            clear q4 b4 QK
            go_wp2_with fail
            refine Calls.mono QP.out ?_
            rintro e5 w5 ⟨rfl, q5, k5⟩
            have H5 : Hid (QL w P G (popQ cs t) (popT cs t) B lv bv sv ms cs a1 l2 w5) := q5
            have QD : Hid _ := H5.out.popped H4.out.q.ok j x M' HJ.out.1 HJ.out.2.1 (65535 * (i : Int)) S1.out.2.2.1 (by have := HLT.out; omega)
            rw [HY.out, ← HJ.out.2.2.1] at QD
            clear q5 k5 QP c0
            go_wp2_with fail
            refine Calls.mono QD.out ?_
            rintro e6 w6 ⟨rfl, ms6, q6, s6, _, _, k6⟩
            have H6 : Hid (QL w P G (popQ cs t) (popT cs t) B lv bv sv ms6 (popQ cs t) a1 l2 w6 ∧ Sv (65535 * (i : Int) + 65535) ms6 ∧ (popQ cs t).length = m) := ⟨q6, s6, by rw [HJ.out.2.2.1, List.length_set]; exact S1.out.2.2.2⟩
            clear q6 s6 k6 QD H5 H4 S1
            go_upto_region 23 with fail
            go_wp2_with fail
            refine Calls.mono H6.out.1.agrees ?_
            rintro ez xz ⟨rfl, qz, bz⟩
            have HZ : Hid (QL w P G (popQ cs t) (popT cs t) B lv bv sv ms6 (popQ cs t) a1 l2 xz ∧ Sv (65535 * ((i : Int) + 1)) ms6 ∧ ((popQ cs t)).length = m) := ⟨qz, H6.out.2.1.mono (by have := HLT.out; omega), H6.out.2.2⟩
            clear qz bz
            go_wp2_with fail
            go_roundw
            case rel => exact ⟨i + 1, _, _, _, by first | rfl | go_num, by have := HLT.out; omega, HZ.out.1, by have h1 := HZ.out.2.1; rw [show (((i + 1 : Nat)) : Int) = (i : Int) + 1 by omega]; exact h1, HZ.out.2.2⟩
            case measure => have := HLT.out; simp [intOf]; omega
          | false =>
            rw [hpb] at QK
            have HJ : Hid (anyR cs = false ∧ popN cs t = pn ∧ popC cs t = pc ∧ popQ cs t = cs) := ⟨hpb, hpn, hpc, by unfold popQ; rw [hpb]; rfl⟩
            clear hpb hpn hpc
            have hn1 : ((pn : Int) != pn) = false := by simp
            have hn2 : ((pc : Int) != pc) = false := by simp
            go_wp2_with fail
            refine Calls.mono QK.out ?_
            rintro e4 w4 ⟨rfl, q4, b4⟩
            have H4 : Hid (QL w P G cs t B lv bv sv ms cs a1 l2 w4) := q4
            have QP : Hid _ := H4.out.pop
            rw [HJ.out.1, HJ.out.2.1, HJ.out.2.2.1, HJ.out.2.2.2] at QP
            clear q4 b4 QK
            go_wp2_with fail
            refine Calls.mono QP.out ?_
            rintro e5 w5 ⟨rfl, q5, k5⟩
            have H6 : Hid (QL w P G cs (popT cs t) B lv bv sv ms cs a1 l2 w5 ∧ Sv (65535 * (i : Int)) ms ∧ cs.length = m) := ⟨q5, S1.out.2.2.1, S1.out.2.2.2⟩
            clear q5 k5 QP H4 S1 c0
            go_upto_region 23 with fail
            go_wp2_with fail
            refine Calls.mono H6.out.1.agrees ?_
            rintro ez xz ⟨rfl, qz, bz⟩
            have HZ : Hid (QL w P G cs (popT cs t) B lv bv sv ms cs a1 l2 xz ∧ Sv (65535 * ((i : Int) + 1)) ms ∧ (cs).length = m) := ⟨qz, H6.out.2.1.mono (by have := HLT.out; omega), H6.out.2.2⟩
            clear qz bz
            go_wp2_with fail
            go_roundw
            case rel => exact ⟨i + 1, _, _, _, by first | rfl | go_num, by have := HLT.out; omega, HZ.out.1, by have h1 := HZ.out.2.1; rw [show (((i + 1 : Nat)) : Int) = (i : Int) + 1 by omega]; exact h1, HZ.out.2.2⟩
            case measure => have := HLT.out; simp [intOf]; omega
        · have q2 : (kd == 2) = false := by simpa using h2
          by_cases h4 : kd = 4
          · have q4 : (kd == 4) = true := by simpa using h4
            clear h1 h2 h4
            go_wp2_with fail
            refine Calls.mono S1.out.1.tick ?_
            rintro e5 w5 ⟨rfl, q5, k5⟩
            have H6 : Hid (QL w P G (cs.map fillC) t B lv bv sv ms (cs.map fillC) a1 l2 w5 ∧ Sv (65535 * (i : Int)) ms ∧ (cs.map fillC).length = m) := ⟨q5, S1.out.2.2.1, by rw [List.length_map]; exact S1.out.2.2.2⟩
            clear q5 k5 S1 c0
            go_upto_region 23 with fail
            go_wp2_with fail
            refine Calls.mono H6.out.1.agrees ?_
            rintro ez xz ⟨rfl, qz, bz⟩
            have HZ : Hid (QL w P G (cs.map fillC) t B lv bv sv ms (cs.map fillC) a1 l2 xz ∧ Sv (65535 * ((i : Int) + 1)) ms ∧ ((cs.map fillC)).length = m) := ⟨qz, H6.out.2.1.mono (by have := HLT.out; omega), H6.out.2.2⟩
            clear qz bz
            go_wp2_with fail
            go_roundw
            case rel => exact ⟨i + 1, _, _, _, by first | rfl | go_num, by have := HLT.out; omega, HZ.out.1, by have h1 := HZ.out.2.1; rw [show (((i + 1 : Nat)) : Int) = (i : Int) + 1 by omega]; exact h1, HZ.out.2.2⟩
            case measure => have := HLT.out; simp [intOf]; omega
          · have q4 : (kd == 4) = false := by simpa using h4
            clear h1 h2 h4
            have H6 : Hid (QL w P G cs t B lv bv sv ms cs a1 l2 x1 ∧ Sv (65535 * (i : Int)) ms ∧ cs.length = m) := ⟨S1.out.1, S1.out.2.2.1, S1.out.2.2.2⟩
            clear S1
            go_upto_region 23 with fail
            go_wp2_with fail
            refine Calls.mono H6.out.1.agrees ?_
            rintro ez xz ⟨rfl, qz, bz⟩
            have HZ : Hid (QL w P G cs t B lv bv sv ms cs a1 l2 xz ∧ Sv (65535 * ((i : Int) + 1)) ms ∧ (cs).length = m) := ⟨qz, H6.out.2.1.mono (by have := HLT.out; omega), H6.out.2.2⟩
            clear qz bz
            go_wp2_with fail
            go_roundw
            case rel => exact ⟨i + 1, _, _, _, by first | rfl | go_num, by have := HLT.out; omega, HZ.out.1, by have h1 := HZ.out.2.1; rw [show (((i + 1 : Nat)) : Int) = (i : Int) + 1 by omega]; exact h1, HZ.out.2.2⟩
            case measure => have := HLT.out; simp [intOf]; omega
    · have p1 : decide ((i : Int) < (len : Int)) = false := decide_eq_false (by omega)
      have p2 : decide (i < len) = false := decide_eq_false hlt
      clear hlt hi
      go_wp2_with fail
      go_ret
      exact ⟨rfl, ST.out.1.q.bel⟩
end Go.Proofs.Ytclkcpdghpaboaa
