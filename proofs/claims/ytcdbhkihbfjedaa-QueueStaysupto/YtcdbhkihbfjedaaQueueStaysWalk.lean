/-
  QueueStays: the walk.
-/
import Derived.Test.YtcdbhkihbfjedaaQH0
namespace Go.Proofs.Ytcdbhkihbfjedaa
open Go.RowKit

theorem OpvAt.kp {w w' : World} {O : Nat} {o : OV} (h : OpvAt w O o) (k : Kp w w') : OpvAt w' O o := k.block O _ _ h (by decide) (by decide) (by decide)
theorem op_at {w w' : World} {a : Option Addr} {ops : List OV} (h : ListG 5 ocL OpOk w a ops) (b : Below w.heap.size w w') (i : Nat) (hi : i < ops.length) : ∃ o : OV, ops[i]? = some o ∧ OpOk o ∧ ∃ g off, a = some ⟨g, off, none⟩ ∧ w'.rangeAt g (off + i * 5) (opC o).toList := by
  obtain ⟨hok, g, off, ha, hlt, hc⟩ := (ListG.old h b).at i ops[i] (List.getElem?_eq_getElem hi)
  refine ⟨ops[i], List.getElem?_eq_getElem hi, hok, g, off, ha, fun j v hj => ?_⟩
  have hj' : j < 5 := (List.getElem?_eq_some_iff.1 hj).1
  rw [hc j hj']
  exact hj
theorem push_first {ls : List LI} (h : nwB ls = true) : pushE (c0s ls) 0 1 = 0 := by
  simp only [nwB, Bool.and_eq_true, decide_eq_true_eq, List.all_eq_true] at h
  have hl : (c0s ls).length = ls.length := by unfold c0s; exact List.length_map ..
  unfold pushE
  rw [if_pos (by rw [hl]; omega), if_pos (by omega), if_pos]
  cases ls with
  | nil => simp at h
  | cons l r =>
    have h1 := lmB_ok (h.2 l List.mem_cons_self)
    have h2 := h1.it
    have h3 := h1.by'
    show room ⟨l, [], l.bu⟩ 1 = true
    unfold room
    simp [szL]
    omega
theorem push_cls (cs : List CL) (s : Int) : pushE cs (cs.length : Int) s = 181 := by unfold pushE; rw [if_neg (by omega)]
theorem push_no {cs : List CL} {i s n : Int} (h : pushE cs i s ≠ 0) : pushCs cs i s n = cs := by unfold pushCs; rw [if_neg h]
theorem push_len (cs : List CL) (i s n : Int) : (pushCs cs i s n).length = cs.length := by
  unfold pushCs
  split
  · exact List.length_set ..
  · rfl
theorem push_zs {cs : List CL} (h : 1 ≤ cs.length) : pushE cs 0 0 = 182 := by unfold pushE; rw [if_pos (by omega), if_neg (by omega)]
set_option maxHeartbeats 12800000 in
set_option maxRecDepth 100000 in
theorem queueStays.walk (w : World) (a : Option Addr) (n cap : Nat) (ls : List LI) (hl : ls.length = n) (hs : ListG 5 liL LiW w a ls) (hn : n ≤ 1048576) (b : Option Addr) (len bcap : Nat) (ops : List OV) (hl2 : ops.length = len) (hs2 : ListG 5 ocL OpOk w b ops) (hn2 : len ≤ 1048576) : Calls Try.prog 4 #[.slice a n cap, .slice b len bcap] w fun e w' => e = .returned (.bool true) ∧ Below w.heap.size w w' := by
  have HS : Hid (ListG 5 ocL OpOk w b ops ∧ ops.length = len ∧ len ≤ 1048576) := ⟨hs2, hl2, hn2⟩
  have HK : Hid (LsK w w a ls) := LsK.first hs
  have QO : Hid _ := queueOf_any w a n cap ls w hl HK.out (by omega) (Below.refl _ _)
  obtain ⟨l2, hl2e⟩ : ∃ l2, l2 = qls ls := ⟨_, rfl⟩
  have HNB : Hid (nwB l2 = true ∧ qls l2 = l2) := by
    have h1 : nwB l2 = true := by rw [hl2e]; exact qls_ok ls
    exact ⟨h1, if_pos h1⟩
  rw [← hl2e] at QO
  clear hl hs hn hl2 hs2 hn2 hl2e HK
  go_enter Try.func4, Try.ntmps4
  go_wp2_with fail
  refine Calls.mono QO.out ?_
  rintro e1 w1 ⟨P, G, a1, c1, rfl, q1, b1, hP, hG, lk1⟩
  obtain ⟨m, hm⟩ : ∃ m, l2.length = m := ⟨_, rfl⟩
  have hm8 : 1 ≤ m ∧ m ≤ 8 := by have h1 := q1.len; rw [List.length_map, hm] at h1; exact h1
  rw [hm]
  have H1 : Hid (Q1 w P G (c0s l2) tz w1 ∧ LsK w w1 a1 l2 ∧ Below w.heap.size w w1) := ⟨⟨_, csOf_mk l2, q1, b1, mk_out hP hG⟩, lk1, b1⟩
  have QO2 : Hid _ := queueOf_any w a1 m c1 l2 w1 hm H1.out.2.1 (by omega) H1.out.2.2
  rw [HNB.out.2] at QO2
  clear q1 b1 hP hG lk1 QO
  go_wp2_with fail
  refine Calls.mono QO2.out ?_
  rintro e2 w2 ⟨P', G', a2, c2, rfl, q2, b2, hP, hG, lk2⟩
  rw [hm]
  have H2 : Hid (Q2 w P G (c0s l2) tz P' G' (c0s l2) tz w2 ∧ (c0s l2).length = m) := ⟨by have := H1.out.1.and q2 b2 (mk_out hP hG); rwa [csOf_mk] at this, by unfold c0s; rw [List.length_map, hm]⟩
  clear q2 b2 hP hG lk2 QO2 H1 hm
  have QP : Hid _ := H2.out.1.push 0 1 7
  rw [push_first HNB.out.1] at QP
  go_wp2_with fail
  refine Calls.mono QP.out ?_
  rintro e3 w3 ⟨rfl, q3, _⟩
  have H3 : Hid (Q2 w P G (pushCs (c0s l2) 0 1 7) tz P' G' (c0s l2) tz w3) := q3
  clear q3 QP
  go_wp2_with fail
  refine Calls.mono (num_any 0 w3) ?_
  rintro e4 w4 ⟨rfl, rfl⟩
  have QP : Hid _ := H3.out.swap.push 0 1 7
  rw [push_first HNB.out.1] at QP
  go_wp2_with fail
  refine Calls.mono QP.out ?_
  rintro e5 w5 ⟨rfl, q5, _⟩
  have H5 : Hid (Q2 w P G (pushCs (c0s l2) 0 1 7) tz P' G' (pushCs (c0s l2) 0 1 7) tz w5) := q5.swap
  clear q5 QP H3
  go_wp2_with fail
  refine Calls.mono (num_any 0 w5) ?_
  rintro e6 w6 ⟨rfl, rfl⟩
  have HLN : Hid ((pushCs (c0s l2) 0 1 7).length = m) := by show _ = _; rw [push_len]; exact H2.out.2
  clear H2
  go_wp2_with fail
  go_loopw [8] (fun ix wr => ∃ (i : Nat) (cs : List CL) (t : TN), ix = .int .i64 i ∧ i ≤ len ∧ Hid (Q2 w P G cs t P' G' cs t wr ∧ cs.length = m)) (fun ix _ => len - (intOf ix).toNat)
  case atStart => exact ⟨0, _, tz, rfl, by omega, H5.out, HLN.out⟩
  case round =>
    obtain ⟨i, cs, t, rfl, hi, ST⟩ := hrel
    clear H5
    by_cases hlt : i < len
    · have k0 : (0 : Int) ≤ (i : Int) := by omega
      have k1 : (i : Int) < (len : Int) := by omega
      have k2 : ((i : Int)).toNat = i := by omega
      have wi : IntKind.i64.wrap ((i : Int) + 1) = (i : Int) + 1 := by have := HS.out.2.2; exact i64_s _ (by omega) (by omega)
      obtain ⟨o, _, hok, g, off, rfl, hrg⟩ := op_at HS.out.1 ST.out.1.bel i (by rw [HS.out.2.1]; exact hlt)
      have HRG : Hid (wr.rangeAt g (off + i * 5) (opC o).toList) := hrg
      have HLT : Hid (i < len) := hlt
      clear hrg hi hlt hok
      go_wp2_with (first | (refine wpList_mid_opv (.tmp 52) rfl g (off + i * 5) o rfl HRG.out rfl ?_) | (refine wpList_alloc_opv rfl rfl ?_) | (refine wpList_store_opv (.tmp 9) (.tmp 53) rfl rfl wr.heap.size oz o rfl rfl (opv_new wr oz) rfl ?_))
      intro x1 h1 kk1
      have bx : Below wr.heap.size wr x1 := boxed_below kk1 (fun q e => by have e' : q = wr.heap.size := e; omega)
      obtain ⟨O9, hO9⟩ : ∃ O, wr.heap.size = O := ⟨_, rfl⟩
      rw [hO9] at h1 ⊢
      have S1 : Hid (Q2 w P G cs t P' G' cs t x1 ∧ OpvAt x1 O9 o ∧ cs.length = m) := ⟨ST.out.1.below bx, h1, ST.out.2⟩
      clear h1 kk1 bx hO9 HRG ST
      go_wp2_with fail
      refine Calls.mono S1.out.1.peek ?_
      rintro e7 x2 ⟨rfl, q7, b7⟩
      have S2 : Hid (Q2 w P G cs t P' G' cs t x2 ∧ OpvAt x2 O9 o ∧ cs.length = m) := ⟨q7, S1.out.2.1.below b7, S1.out.2.2⟩
      clear q7 b7 S1
      obtain ⟨kd, hkd⟩ : ∃ kd, o.kd = kd := ⟨_, rfl⟩
      obtain ⟨oc, hoc⟩ : ∃ oc, o.cl = oc := ⟨_, rfl⟩
      obtain ⟨os, hos⟩ : ∃ os, o.sz = os := ⟨_, rfl⟩
      obtain ⟨oi, hoi⟩ : ∃ oi, o.it = oi := ⟨_, rfl⟩
      have HO : Hid (o.kd = kd ∧ o.cl = oc ∧ o.sz = os ∧ o.it = oi) := ⟨hkd, hoc, hos, hoi⟩
      clear hkd hoc hos hoi
      have c2 : x2.cell? ⟨O9, 2, none⟩ = some (.int .i64 oc) := (S2.out.2.1.cell 2).trans (by rw [← HO.out.2.1]; rfl)
      obtain ⟨lq, hlq⟩ : ∃ lq, lenQ cs oc = lq := ⟨_, rfl⟩
      obtain ⟨bq, hbq⟩ : ∃ bq, bytQ cs oc = bq := ⟨_, rfl⟩
      have QL : Hid _ := S2.out.1.len oc
      rw [hlq] at QL
      clear hlq
      go_wp2_with fail
      refine Calls.mono QL.out ?_
      rintro e8 x3 ⟨rfl, q8, b8⟩
      have S3 : Hid (Q2 w P G cs t P' G' cs t x3 ∧ OpvAt x3 O9 o ∧ cs.length = m) := ⟨q8, S2.out.2.1.below b8, S2.out.2.2⟩
      clear q8 b8 S2 QL c2
      have c2 : x3.cell? ⟨O9, 2, none⟩ = some (.int .i64 oc) := (S3.out.2.1.cell 2).trans (by rw [← HO.out.2.1]; rfl)
      have QL : Hid _ := S3.out.1.bytes oc
      rw [hbq] at QL
      clear hbq
      go_wp2_with fail
      refine Calls.mono QL.out ?_
      rintro e9 x4 ⟨rfl, q9, b9⟩
      have S4 : Hid (Q2 w P G cs t P' G' cs t x4 ∧ OpvAt x4 O9 o ∧ cs.length = m) := ⟨q9, S3.out.2.1.below b9, S3.out.2.2⟩
      clear q9 b9 S3 QL c2
      have QP : Hid _ := S4.out.1.push (m : Int) 5 5
      have hpc : pushE cs (m : Int) 5 = 181 := by rw [← S4.out.2.2]; exact push_cls cs 5
      rw [push_no (by rw [hpc]; decide), hpc] at QP
      clear hpc
      go_wp2_with fail
      refine Calls.mono QP.out ?_
      rintro e10 x5 ⟨rfl, q10, k10⟩
      have S5 : Hid (Q2 w P G cs t P' G' cs t x5 ∧ OpvAt x5 O9 o ∧ cs.length = m) := ⟨q10, S4.out.2.1.kp k10, S4.out.2.2⟩
      clear q10 k10 S4 QP
      go_wp2_with fail
      refine Calls.mono (num_any 181 x5) ?_
      rintro e11 x6 ⟨rfl, rfl⟩
      have QP : Hid _ := S5.out.1.push 0 0 5
      have hpc : pushE cs 0 0 = 182 := push_zs (by have := S5.out.2.2; omega)
      rw [push_no (by rw [hpc]; decide), hpc] at QP
      clear hpc
      go_wp2_with fail
      refine Calls.mono QP.out ?_
      rintro e12 x7 ⟨rfl, q12, k12⟩
      have S7 : Hid (Q2 w P G cs t P' G' cs t x7 ∧ OpvAt x7 O9 o ∧ cs.length = m) := ⟨q12, S5.out.2.1.kp k12, S5.out.2.2⟩
      clear q12 k12 S5 QP
      go_wp2_with fail
      refine Calls.mono (num_any 182 x7) ?_
      rintro e13 x8 ⟨rfl, rfl⟩
      have c0 : x7.cell? ⟨O9, 0, none⟩ = some (.int .i64 kd) := (S7.out.2.1.cell 0).trans (by rw [← HO.out.1]; rfl)
      by_cases h1 : kd = 1
      · have q1 : (kd == 1) = true := by simpa using h1
        clear h1
        go_upto_region 16 with fail
        clear c0
        obtain ⟨pe, hpe⟩ : ∃ pe, pushE cs oc os = pe := ⟨_, rfl⟩
        have hne : ((pe : Int) != pe) = false := by simp
        refine MixH.start (fun A => OpvAt A O9 o) (by kernel_rfl) ?_
        obtain ⟨wA, hwA⟩ : ∃ W_, W_ = x7.drew := ⟨_, rfl⟩
        have bdr : Below x7.heap.size x7 wA := by rw [hwA]; exact (Below.refl _ _).drew
        have hS : OpvAt wA O9 o := S7.out.2.1.below bdr
        have SA : Hid (Q2 w P G cs t P' G' cs t wA) := S7.out.1.below bdr
        have QP : Hid _ := SA.out.push oc os oi
        rw [hpe] at QP
        rw [← hwA]
        clear hwA bdr
        refine MixH.takes [true, true, false, true, false, true, false, false, false, true, true, false, true, false, true] 11 (by kernel_rfl) (by kernel_rfl) (by decide) (by kernel_rfl) hS (fun K hK => ?_)
        simp only [Mix.pick]
        repeat (go_big_quiet_step (fail))
        refine wpQuiet_nil (hK _ ?_)
        clear hK K
        refine MixH.take 10 2 _ (.int .i64 oc) rfl (by kernel_rfl) (by kernel_rfl) (by kernel_rfl) (by kernel_rfl) (yields_int (.tmp 81) rfl ⟨O9, 2, none⟩ (.int .i64 oc) rfl rfl (fun A hA => (OpvAt.cell hA 2).trans (by rw [← HO.out.2.1]; rfl))) hS (fun a' ha => ?_)
        simp only [Act.put, List.setIfInBounds_toArray, List.set_cons_succ, List.set_cons_zero] at ha
        subst ha
        refine MixH.take 9 4 _ (.int .i64 os) rfl (by kernel_rfl) (by kernel_rfl) (by kernel_rfl) (by kernel_rfl) (yields_int (.tmp 83) rfl ⟨O9, 3, none⟩ (.int .i64 os) rfl rfl (fun A hA => (OpvAt.cell hA 3).trans (by rw [← HO.out.2.2.1]; rfl))) hS (fun a' ha => ?_)
        simp only [Act.put, List.setIfInBounds_toArray, List.set_cons_succ, List.set_cons_zero] at ha
        subst ha
        refine MixH.take 8 6 _ (.int .i64 oi) rfl (by kernel_rfl) (by kernel_rfl) (by kernel_rfl) (by kernel_rfl) (yields_int (.tmp 85) rfl ⟨O9, 4, none⟩ (.int .i64 oi) rfl rfl (fun A hA => (OpvAt.cell hA 4).trans (by rw [← HO.out.2.2.2]; rfl))) hS (fun a' ha => ?_)
        simp only [Act.put, List.setIfInBounds_toArray, List.set_cons_succ, List.set_cons_zero] at ha
        subst ha
        refine MixH.take 7 11 _ (.int .i64 oc) rfl (by kernel_rfl) (by kernel_rfl) (by kernel_rfl) (by kernel_rfl) (yields_int (.tmp 90) rfl ⟨O9, 2, none⟩ (.int .i64 oc) rfl rfl (fun A hA => (OpvAt.cell hA 2).trans (by rw [← HO.out.2.1]; rfl))) hS (fun a' ha => ?_)
        simp only [Act.put, List.setIfInBounds_toArray, List.set_cons_succ, List.set_cons_zero] at ha
        subst ha
        refine MixH.take 6 13 _ (.int .i64 os) rfl (by kernel_rfl) (by kernel_rfl) (by kernel_rfl) (by kernel_rfl) (yields_int (.tmp 92) rfl ⟨O9, 3, none⟩ (.int .i64 os) rfl rfl (fun A hA => (OpvAt.cell hA 3).trans (by rw [← HO.out.2.2.1]; rfl))) hS (fun a' ha => ?_)
        simp only [Act.put, List.setIfInBounds_toArray, List.set_cons_succ, List.set_cons_zero] at ha
        subst ha
        refine MixH.take 5 15 _ (.int .i64 oi) rfl (by kernel_rfl) (by kernel_rfl) (by kernel_rfl) (by kernel_rfl) (yields_int (.tmp 94) rfl ⟨O9, 4, none⟩ (.int .i64 oi) rfl rfl (fun A hA => (OpvAt.cell hA 4).trans (by rw [← HO.out.2.2.2]; rfl))) hS (fun a' ha => ?_)
        simp only [Act.put, List.setIfInBounds_toArray, List.set_cons_succ, List.set_cons_zero] at ha
        subst ha
        refine MixH.one [false, false, false, false, false, false, false, true] 4 7 _ rfl rfl (by kernel_rfl) (by kernel_rfl) (fun K hK => ?_)
        simp only [Mix.pick]
        go_wp2_with fail
        refine Calls.mono (QP.out) ?_
        rintro ea xa ⟨rfl, qa, ka⟩
        have SB : Hid (Q2 w P G (pushCs cs oc os oi) t P' G' cs t xa) := qa
        replace hS : OpvAt xa O9 o := hS.kp ka
        have QR : Hid _ := SB.out.swap.push oc os oi
        rw [hpe] at QR
        clear qa ka QP
        go_wp2_with fail
        refine ⟨rfl, hK _ _ hS ?_⟩
        clear hK K
        refine MixH.one [false, false, false, false, false, false, false, false, true] 3 8 _ rfl rfl (by kernel_rfl) (by kernel_rfl) (fun K hK => ?_)
        simp only [Mix.pick]
        go_wp2_with fail
        refine Calls.mono (num_any pe xa) ?_
        rintro eb xb ⟨rfl, rfl⟩
        skip
        go_wp2_with fail
        refine ⟨rfl, hK _ _ hS ?_⟩
        clear hK K
        refine MixH.one [false, false, false, false, false, false, false, false, false, false, false, false, false, false, false, false, true] 2 16 _ rfl rfl (by kernel_rfl) (by kernel_rfl) (fun K hK => ?_)
        simp only [Mix.pick]
        go_wp2_with fail
        refine Calls.mono (QR.out) ?_
        rintro ec xc ⟨rfl, qc, kc⟩
        have SC : Hid (Q2 w P G (pushCs cs oc os oi) t P' G' (pushCs cs oc os oi) t xc) := qc.swap
        replace hS : OpvAt xc O9 o := hS.kp kc
        clear qc kc QR
        go_wp2_with fail
        refine ⟨rfl, hK _ _ hS ?_⟩
        clear hK K
        refine MixH.one [false, false, false, false, false, false, false, false, false, false, false, false, false, false, false, false, false, true] 1 17 _ rfl rfl (by kernel_rfl) (by kernel_rfl) (fun K hK => ?_)
        simp only [Mix.pick]
        go_wp2_with fail
        refine Calls.mono (num_any pe xc) ?_
        rintro ed xd ⟨rfl, rfl⟩
        skip
        go_wp2_with fail
        refine ⟨rfl, hK _ _ hS ?_⟩
        clear hK K
        refine MixH.takes [false, false, false, false, false, false, false, false, false, false, false, false, false, false, false, false, false, false, true] 0 (by kernel_rfl) (by kernel_rfl) (by decide) (by kernel_rfl) hS (fun K hK => ?_)
        simp only [Mix.pick]
        repeat (go_big_quiet_step (fail))
        refine wpQuiet_nil (hK _ ?_)
        clear hK K
        refine MixH.done (by kernel_rfl) ?_
        clear hS hpe
        have HLM : Hid ((pushCs cs oc os oi).length = m) := by
          show _ = _
          unfold pushCs
          split
          · rw [List.length_set]; exact S7.out.2.2
          · exact S7.out.2.2
        go_wp2_with fail
        go_roundw
        case rel => exact ⟨i + 1, _, t, by first | rfl | go_num, by have := HLT.out; omega, ⟨SC.out, HLM.out⟩⟩
        case measure => have := HLT.out; simp [intOf]; omega
      · have q1 : (kd == 1) = false := by simpa using h1
        by_cases h2 : kd = 2
        · have q2 : (kd == 2) = true := by simpa using h2
          clear h1 h2
          obtain ⟨pn, hpn⟩ : ∃ pn, popN cs t = pn := ⟨_, rfl⟩
          obtain ⟨pc, hpc⟩ : ∃ pc, popC cs t = pc := ⟨_, rfl⟩
          obtain ⟨pb, hpb⟩ : ∃ pb, anyR cs = pb := ⟨_, rfl⟩
          have hn1 : ((pn : Int) != pn) = false := by simp
          have hn2 : ((pc : Int) != pc) = false := by simp
          have hn3 : (pb != pb) = false := by simp
          have QP : Hid _ := S7.out.1.pop
          rw [hpn, hpc, hpb] at QP
          go_wp2_with fail
          refine Calls.mono QP.out ?_
          rintro ea xa ⟨rfl, qa, ka⟩
          have SB : Hid (Q2 w P G (popQ cs t) (popT cs t) P' G' cs t xa) := qa
          have QR : Hid _ := SB.out.swap.pop
          rw [hpn, hpc, hpb] at QR
          clear qa ka QP hpn hpc hpb
          go_wp2_with fail
          refine Calls.mono QR.out ?_
          rintro eb xb ⟨rfl, qb, kb⟩
          have SC : Hid (Q2 w P G (popQ cs t) (popT cs t) P' G' (popQ cs t) (popT cs t) xb) := qb.swap
          clear qb kb QR SB
          have HLM : Hid ((popQ cs t).length = m) := by
            show _ = _
            unfold popQ popCs
            split
            · rw [List.length_set]; exact S7.out.2.2
            · exact S7.out.2.2
          go_wp2_with fail
          go_roundw
          case rel => exact ⟨i + 1, _, _, by first | rfl | go_num, by have := HLT.out; omega, ⟨SC.out, HLM.out⟩⟩
          case measure => have := HLT.out; simp [intOf]; omega
        · have q2 : (kd == 2) = false := by simpa using h2
          by_cases h4 : kd = 4
          · have q4 : (kd == 4) = true := by simpa using h4
            clear h1 h2 h4
            go_wp2_with fail
            refine Calls.mono S7.out.1.tick ?_
            rintro ea xa ⟨rfl, qa, ka⟩
            have SB : Hid (Q2 w P G (cs.map fillC) t P' G' cs t xa) := qa
            clear qa ka
            go_wp2_with fail
            refine Calls.mono SB.out.swap.tick ?_
            rintro eb xb ⟨rfl, qb, kb⟩
            have SC : Hid (Q2 w P G (cs.map fillC) t P' G' (cs.map fillC) t xb) := qb.swap
            clear qb kb SB
            have HLM : Hid ((cs.map fillC).length = m) := by show _ = _; rw [List.length_map]; exact S7.out.2.2
            go_wp2_with fail
            go_roundw
            case rel => exact ⟨i + 1, _, t, by first | rfl | go_num, by have := HLT.out; omega, ⟨SC.out, HLM.out⟩⟩
            case measure => have := HLT.out; simp [intOf]; omega
          · have q4 : (kd == 4) = false := by simpa using h4
            clear h1 h2 h4
            go_wp2_with fail
            go_roundw
            case rel => exact ⟨i + 1, cs, t, by first | rfl | go_num, by have := HLT.out; omega, ⟨S7.out.1, S7.out.2.2⟩⟩
            case measure => have := HLT.out; simp [intOf]; omega
    · have p1 : decide ((i : Int) < (len : Int)) = false := decide_eq_false (by omega)
      have p2 : decide (i < len) = false := decide_eq_false hlt
      clear hlt hi
      go_wp2_with fail
      go_ret
      exact ⟨rfl, ST.out.1.bel⟩
end Go.Proofs.Ytcdbhkihbfjedaa
