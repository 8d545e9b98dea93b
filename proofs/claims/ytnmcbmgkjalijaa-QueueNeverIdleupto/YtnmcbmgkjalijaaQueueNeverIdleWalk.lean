/-
  QueueNeverIdle: the walk.
-/
import Derived.Test.YtnmcbmgkjalijaaQB8
import Derived.Test.YtnmcbmgkjalijaaQueueLinesWalk
namespace Go.Proofs.Ytnmcbmgkjalijaa
open Go.RowKit Go.ChangeShapes Go.WideShapes

theorem QNI.row {W : World} {P G : Nat} {cq : List CL} {t : TN} {B : Nat} {lv bv sv : Value} {ms : List BM} {cb : List CL} {ab off : Nat} {l2 : List LI} {p : Nat} {tv : Value} {ts : List Int} {w : World} (h : QNI W P G cq t B lv bv sv ms cb (some ⟨ab, off, none⟩) l2 p tv ts w) (j : Nat) (hj : j < cb.length) : w.rangeAt ab (off + j * 5) (liA (cAt cb j).li).toList := by
  obtain ⟨_, ab', off', e, hr⟩ := h.ql.ls.li.row j (cAt cb j).li (by rw [← h.ql.li, List.getElem?_map, cAt_get hj]; rfl)
  simp only [Option.some.injEq, Addr.mk.injEq, and_true] at e
  obtain ⟨rfl, rfl⟩ := e
  exact hr
theorem Tz.first {l2 : List LI} (h : ∀ l ∈ l2, LiW l) : Tz (c0s l2) := by
  constructor
  · intro c hc _
    unfold c0s at hc
    obtain ⟨l, _, rfl⟩ := List.mem_map.1 hc
    rfl
  · intro c hc
    unfold c0s at hc
    obtain ⟨l, hl, rfl⟩ := List.mem_map.1 hc
    exact h l hl
theorem c0s_tk (l2 : List LI) : (c0s l2).map CL.tk = l2.map LI.bu := by unfold c0s; rw [List.map_map]; rfl
theorem push_tks (cs : List CL) (i s n : Int) : (pushCs cs i s n).map CL.tk = cs.map CL.tk := by
  apply List.ext_getElem?
  intro j
  by_cases hj : j < cs.length
  · rw [List.getElem?_map, List.getElem?_map, cAt_get hj, cAt_get (by rw [push_len2]; exact hj), Option.map_some, Option.map_some, (push_lt cs i s n j).2]
  · rw [List.getElem?_eq_none (by rw [List.length_map, push_len2]; omega), List.getElem?_eq_none (by rw [List.length_map]; omega)]
theorem take_tks {cs : List CL} {j : Nat} {x : Int × Int} {M' : List (Int × Int)} (hL : (cAt cs j).L = x :: M') (hr : 0 < (cAt cs j).li.ra) : (cs.set j (takeC (cAt cs j))).map CL.tk = (cs.map CL.tk).set j ((cAt cs j).tk - x.2) := by
  rw [List.map_set]
  congr 1
  show (if 0 < (cAt cs j).li.ra then (cAt cs j).tk - hdS (cAt cs j).L else (cAt cs j).tk) = _
  rw [if_pos hr, hL]
  rfl
theorem take_tks0 {cs : List CL} {j : Nat} (hj : j < cs.length) (hr : ¬ 0 < (cAt cs j).li.ra) : (cs.set j (takeC (cAt cs j))).map CL.tk = cs.map CL.tk := by
  rw [List.map_set]
  have e : (takeC (cAt cs j)).tk = (cAt cs j).tk := by
    show (if 0 < (cAt cs j).li.ra then (cAt cs j).tk - hdS (cAt cs j).L else (cAt cs j).tk) = _
    rw [if_neg hr]
  rw [e]
  apply List.ext_getElem?
  intro i
  by_cases hi : j = i
  · subst hi
    rw [List.getElem?_set_self (by rw [List.length_map]; exact hj), List.getElem?_map, cAt_get hj]
    rfl
  · rw [List.getElem?_set_ne hi]
theorem any_take2 (cs : List CL) (k : Nat) (hk : k < cs.length) : (cs.take (k + 1)).any CL.rdy = ((cs.take k).any CL.rdy || (cAt cs k).rdy) := by
  rw [List.take_add_one, cAt_get hk]
  simp
set_option maxHeartbeats 25600000 in
set_option maxRecDepth 100000 in
theorem queueNeverIdle.walk (w : World) (a : Option Addr) (n cap : Nat) (ls : List LI) (hl : ls.length = n) (hs : ListG 5 liL LiW w a ls) (hn : n ≤ 1048576) (b : Option Addr) (len bcap : Nat) (ops : List OV) (hl2 : ops.length = len) (hs2 : ListG 5 ocL OpOk w b ops) (hn2 : len ≤ 1048576) : Calls Try.prog 5 #[.slice a n cap, .slice b len bcap] w fun e w' => e = .returned (.bool true) ∧ Below w.heap.size w w' := by
  have HS : Hid (ListG 5 ocL OpOk w b ops ∧ ops.length = len ∧ len ≤ 1048576) := ⟨hs2, hl2, hn2⟩
  have HK : Hid (LsK w w a ls) := LsK.first hs
  have QO : Hid _ := queueOf_any w a n cap ls w hl HK.out (by omega) (Below.refl _ _)
  obtain ⟨l2, hl2e⟩ : ∃ l2, l2 = qls ls := ⟨_, rfl⟩
  have HNB : Hid (nwB l2 = true) := by show _ = _; rw [hl2e]; exact qls_ok ls
  rw [← hl2e] at QO
  have hlen := hn2
  clear hl hs hn hl2 hs2 hn2 hl2e HK
  go_enter Try.func5, Try.ntmps5
  go_wp2_with fail
  refine Calls.mono QO.out ?_
  rintro e1 w1 ⟨P, G, a1, c1, rfl, q1, b1, hP, hG, lk1⟩
  obtain ⟨m, hm⟩ : ∃ m, l2.length = m := ⟨_, rfl⟩
  have hm8 : 1 ≤ m ∧ m ≤ 8 := by have h1 := q1.len; rw [List.length_map, hm] at h1; exact h1
  rw [hm]
  obtain ⟨hlw0, ab, off, rfl, hr0⟩ := lk1.li.row 0 l2[0] (List.getElem?_eq_getElem (by omega))
  have HLW : Hid (∀ l ∈ l2, LiW l) := fun l hl => by
    obtain ⟨i, hi⟩ := List.getElem?_of_mem hl
    exact (lk1.li.row i l hi).1
  have H1 : Hid (Q1 w P G (c0s l2) tz w1 ∧ LsK w w1 (some ⟨ab, off, none⟩) l2 ∧ l2.length = m) := ⟨⟨_, csOf_mk l2, q1, b1, mk_out hP hG⟩, lk1, hm⟩
  clear q1 b1 hP hG lk1 QO hm hlw0 hr0
  go_wp2_with fail
  refine Calls.mono (book_any m hm8.2 w1) ?_
  rintro e2 w2 ⟨B, lv, bv, sv, rfl, k2, b2⟩
  have hg0 : (List.replicate m m0)[0]? = some m0 := by rw [List.getElem?_replicate, if_pos (by omega)]
  obtain ⟨gl, cl, hlv, xa, xb, xc⟩ := k2.l.at bmV_len 0 m0 hg0
  clear xa xb xc
  obtain ⟨gb, cb, hbv, xa, xb, xc⟩ := k2.by'.at bmB_len 0 m0 hg0
  clear xa xb xc
  obtain ⟨gs, cs', hsv, xa, xb, xc⟩ := k2.s.at bmS_len 0 m0 hg0
  clear xa xb xc
  rw [List.length_replicate] at hlv hbv hsv
  subst hlv hbv hsv
  have H2 : Hid (QL w P G (c0s l2) tz B (.slice (some ⟨gl, 0, none⟩) m cl) (.slice (some ⟨gb, 0, none⟩) m cb) (.slice (some ⟨gs, 0, none⟩) m cs') (List.replicate m m0) (c0s l2) (some ⟨ab, off, none⟩) l2 w2 ∧ (c0s l2).length = m ∧ l2.length = m) := by
    have h1 := QL.first (H1.out.1.below b2) (by rw [H1.out.2.2]; exact k2.mono H1.out.1.bel.size) ((H1.out.2.1).keep H1.out.1.bel (H1.out.1.below b2).bel (Kp.ofBelow b2))
    rw [H1.out.2.2] at h1
    exact ⟨h1, by unfold c0s; rw [List.length_map, H1.out.2.2], H1.out.2.2⟩
  have QU : Hid _ := purse_any (some ⟨ab, off, none⟩) m c1 l2 w2 H2.out.1.ls.li H2.out.2.2 hm8.2
  clear k2 b2 H1 hg0
  go_wp2_with fail
  refine Calls.mono QU.out ?_
  rintro e3 w3 ⟨p, tv, rfl, p3, b3⟩
  obtain ⟨gt, tc, htv, hgt, xb, xc⟩ := p3.t.at inL_len 0 (l2[0]'(by have := H2.out.2.2; omega)).bu (by rw [List.getElem?_map, List.getElem?_eq_getElem (by have := H2.out.2.2; omega)]; rfl)
  rw [List.length_map, H2.out.2.2] at htv
  subst htv
  have H3 : Hid (QNI w P G (c0s l2) tz B (.slice (some ⟨gl, 0, none⟩) m cl) (.slice (some ⟨gb, 0, none⟩) m cb) (.slice (some ⟨gs, 0, none⟩) m cs') (List.replicate m m0) (c0s l2) (some ⟨ab, off, none⟩) l2 p (.slice (some ⟨gt, 0, none⟩) m tc) ((c0s l2).map CL.tk) w3 ∧ (c0s l2).length = m ∧ l2.length = m) := by
    have h1 := H2.out.1.k.by'.kind gb rfl
    have h2 := H2.out.1.k.s.kind gs rfl
    refine ⟨⟨H2.out.1.below b3, by rw [c0s_tk]; exact p3.mono H2.out.1.q.bel.size, fun q hq => ?_⟩, H2.out.2⟩
    simp only [Value.ownBlock, Option.some.injEq] at hq
    subst hq
    constructor <;> intro e <;> simp only [Value.ownBlock, Option.some.injEq] at e <;> omega
  clear p3 b3 hgt xb xc H2 QU
  go_upto_region 7 with (first | (refine wpList_alloc_opv rfl rfl ?_) | (refine wpList_store_opv (.tmp 8) (.tmp 33) rfl rfl w3.heap.size oz ⟨0, false, 0, 1, -4⟩ rfl rfl (opv_new w3 oz) rfl ?_; intro w4 h4 k4))
  have b4 : Below w3.heap.size w3 w4 := boxed_below k4 (fun q e => by have e' : q = w3.heap.size := e; omega)
  obtain ⟨O8, hO8⟩ : ∃ O, w3.heap.size = O := ⟨_, rfl⟩
  rw [hO8] at h4 ⊢
  have H4 : Hid (QNI w P G (c0s l2) tz B (.slice (some ⟨gl, 0, none⟩) m cl) (.slice (some ⟨gb, 0, none⟩) m cb) (.slice (some ⟨gs, 0, none⟩) m cs') (List.replicate m m0) (c0s l2) (some ⟨ab, off, none⟩) l2 p (.slice (some ⟨gt, 0, none⟩) m tc) ((c0s l2).map CL.tk) w4 ∧ (c0s l2).length = m ∧ OpvAt w4 O8 ⟨0, false, 0, 1, -4⟩ ∧ l2.length = m) := ⟨H3.out.1.below b4, H3.out.2.1, h4, H3.out.2.2⟩
  clear h4 k4 b4 hO8 H3
  simp only [Act.put, List.setIfInBounds_toArray, List.set_cons_succ, List.set_cons_zero]
  refine MixH.start (fun A => OpvAt A O8 ⟨0, false, 0, 1, -4⟩) (by kernel_rfl) ?_
  obtain ⟨wA, hwA⟩ : ∃ W_, W_ = w4.drew := ⟨_, rfl⟩
  have bdr : Below w4.heap.size w4 wA := by rw [hwA]; exact (Below.refl _ _).drew
  have HA : Hid (QNI w P G (c0s l2) tz B (.slice (some ⟨gl, 0, none⟩) m cl) (.slice (some ⟨gb, 0, none⟩) m cb) (.slice (some ⟨gs, 0, none⟩) m cs') (List.replicate m m0) (c0s l2) (some ⟨ab, off, none⟩) l2 p (.slice (some ⟨gt, 0, none⟩) m tc) ((c0s l2).map CL.tk) wA ∧ (c0s l2).length = m ∧ l2.length = m) := ⟨H4.out.1.below bdr, H4.out.2.1, H4.out.2.2.2⟩
  have hS : OpvAt wA O8 ⟨0, false, 0, 1, -4⟩ := H4.out.2.2.1.below bdr
  have QP : Hid _ := HA.out.1.push 0 1 (-4)
  rw [push_first2 HNB.out] at QP
  rw [← hwA]
  clear hwA bdr
  refine MixH.takes [true, true, false, true] 5 (by kernel_rfl) (by kernel_rfl) (by decide) (by kernel_rfl) hS (fun K hK => ?_)
  simp only [Mix.pick]
  repeat (go_big_quiet_step (fail))
  refine wpQuiet_nil (hK _ ?_)
  clear hK K
  refine MixH.take 4 2 _ (.agg (opC ⟨0, false, 0, 1, -4⟩)) rfl (by kernel_rfl) (by kernel_rfl) (by kernel_rfl) (by kernel_rfl) (yields_opv (.tmp 8) rfl O8 0 ⟨0, false, 0, 1, -4⟩ rfl rfl (fun A hA => OpvAt.all hA)) hS (fun a' ha => ?_)
  simp only [Act.put, List.setIfInBounds_toArray, List.set_cons_succ, List.set_cons_zero] at ha
  subst ha
  refine MixH.one [false, false, false, false, true] 3 4 _ rfl rfl (by kernel_rfl) (by kernel_rfl) (fun K hK => ?_)
  simp only [Mix.pick]
  go_wp2_with fail
  refine Calls.mono (QP.out) ?_
  rintro e5 w5 ⟨rfl, q5, k5⟩
  have H5 : Hid (QNI w P G (pushCs (c0s l2) 0 1 (-4)) tz B (.slice (some ⟨gl, 0, none⟩) m cl) (.slice (some ⟨gb, 0, none⟩) m cb) (.slice (some ⟨gs, 0, none⟩) m cs') (List.replicate m m0) (c0s l2) (some ⟨ab, off, none⟩) l2 p (.slice (some ⟨gt, 0, none⟩) m tc) ((c0s l2).map CL.tk) w5) := q5
  replace hS : OpvAt w5 O8 ⟨0, false, 0, 1, -4⟩ := k5.2 _ _ hS
  have QD : Hid _ := H5.out.pushed HA.out.1.ql.q.ok m c1 HA.out.2.1 0 0 1 (-4) 0 false (push_first2 HNB.out).symm
  clear q5 k5 QP
  go_wp2_with fail
  refine ⟨rfl, hK _ _ hS ?_⟩
  clear hK K
  refine MixH.one [false, false, false, false, false, true] 2 5 _ rfl rfl (by kernel_rfl) (by kernel_rfl) (fun K hK => ?_)
  simp only [Mix.pick]
  go_wp2_with fail
  refine Calls.mono (num_any 0 w5) ?_
  rintro e6 w6 ⟨rfl, rfl⟩
  skip
  go_wp2_with fail
  refine ⟨rfl, hK _ _ hS ?_⟩
  clear hK K
  refine MixH.one [false, false, false, false, false, false, true] 1 6 _ rfl rfl (by kernel_rfl) (by kernel_rfl) (fun K hK => ?_)
  simp only [Mix.pick]
  go_wp2_with fail
  refine Calls.mono (QD.out) ?_
  rintro e7 w7 ⟨rfl, ms7, q7, s7, k7⟩
  have H7 : Hid (QNI w P G (pushCs (c0s l2) 0 1 (-4)) tz B (.slice (some ⟨gl, 0, none⟩) m cl) (.slice (some ⟨gb, 0, none⟩) m cb) (.slice (some ⟨gs, 0, none⟩) m cs') ms7 (pushCs (c0s l2) 0 1 (-4)) (some ⟨ab, off, none⟩) l2 p (.slice (some ⟨gt, 0, none⟩) m tc) (((pushCs (c0s l2) 0 1 (-4))).map CL.tk) w7 ∧ Sv (65535 * (0 : Int)) ms7 ∧ Tz (pushCs (c0s l2) 0 1 (-4)) ∧ Iv (0 : Int) (pushCs (c0s l2) 0 1 (-4)) ms7 ∧ ((pushCs (c0s l2) 0 1 (-4))).length = m ∧ (0 ≤ (0 : Int) ∧ (0 : Int) ≤ 1000000)) := ⟨by rw [push_tks]; exact q7, ((Sv.zero m).same s7).mono (by omega), (Tz.first HLW.out).push 0 1 (-4), by have h1 := Iv.first l2; rw [HA.out.2.2] at h1; exact h1.push s7 0 1 (-4), by rw [push_len2]; exact HA.out.2.1, by omega, by omega⟩
  replace hS : OpvAt w7 O8 ⟨0, false, 0, 1, -4⟩ := k7.2 _ _ hS
  clear q7 s7 k7 QD H5
  go_wp2_with fail
  refine ⟨rfl, hK _ _ hS ?_⟩
  clear hK K
  refine MixH.takes [false, false, false, false, false, false, false, true] 0 (by kernel_rfl) (by kernel_rfl) (by decide) (by kernel_rfl) hS (fun K hK => ?_)
  simp only [Mix.pick]
  repeat (go_big_quiet_step (fail))
  refine wpQuiet_nil (hK _ ?_)
  clear hK K
  refine MixH.done (by kernel_rfl) ?_
  clear hS HA H4
  go_wp2_with fail
  go_loopw [9, 10] (fun tx ix wr => ∃ (i : Nat) (kt : Int) (cs : List CL) (t : TN) (ms : List BM), tx = .int .i64 kt ∧ ix = .int .i64 (i : Nat) ∧ i ≤ len + 1 ∧ Hid (QNI w P G cs t B (.slice (some ⟨gl, 0, none⟩) m cl) (.slice (some ⟨gb, 0, none⟩) m cb) (.slice (some ⟨gs, 0, none⟩) m cs') ms cs (some ⟨ab, off, none⟩) l2 p (.slice (some ⟨gt, 0, none⟩) m tc) ((cs).map CL.tk) wr ∧ Sv (65535 * (i : Int)) ms ∧ Tz cs ∧ Iv kt cs ms ∧ (cs).length = m ∧ (0 ≤ kt ∧ kt ≤ 1000000))) (fun _ ix _ => len + 1 - (intOf ix).toNat)
  case atStart => exact ⟨0, 0, pushCs (c0s l2) 0 1 (-4), tz, ms7, rfl, rfl, Nat.zero_le _, H7.out⟩
  case round =>
    obtain ⟨i, kt, cs, t, ms, rfl, rfl, hi, ST⟩ := hrel
    clear H7
    have wl : IntKind.i64.wrap ((len : Int) + 1) = (len : Int) + 1 := i64_s _ (by omega) (by omega)
    by_cases hlt : i < len + 1
    · have p1 : decide ((i : Int) < (len : Int) + 1) = true := decide_eq_true (by omega)
      have wi : IntKind.i64.wrap ((i : Int) + 1) = (i : Int) + 1 := i64_s _ (by omega) (by omega)
      have HLT : Hid (i < len + 1 ∧ len ≤ 1048576) := ⟨hlt, hlen⟩
      go_upto_region 14 with (first | (refine wpList_alloc_opv rfl rfl ?_) | (refine wpList_store_opv (.tmp 11) (.tmp 49) rfl rfl wr.heap.size oz ⟨2, false, 0, 0, 0⟩ rfl rfl (opv_new wr oz) rfl ?_; intro x0 h0 kk0))
      have bx : Below wr.heap.size wr x0 := boxed_below kk0 (fun q e => by have e' : q = wr.heap.size := e; omega)
      obtain ⟨O9, hO9⟩ : ∃ O, wr.heap.size = O := ⟨_, rfl⟩
      have hWO : w.heap.size ≤ O9 := by rw [← hO9]; exact ST.out.1.ql.q.bel.size
      rw [hO9] at h0 ⊢
      have S0 : Hid ((QNI w P G cs t B (.slice (some ⟨gl, 0, none⟩) m cl) (.slice (some ⟨gb, 0, none⟩) m cb) (.slice (some ⟨gs, 0, none⟩) m cs') ms cs (some ⟨ab, off, none⟩) l2 p (.slice (some ⟨gt, 0, none⟩) m tc) ((cs).map CL.tk) x0 ∧ Sv (65535 * (i : Int)) ms ∧ Tz cs ∧ Iv kt cs ms ∧ (cs).length = m ∧ (0 ≤ kt ∧ kt ≤ 1000000)) ∧ OpvAt x0 O9 ⟨2, false, 0, 0, 0⟩ ∧ w.heap.size ≤ O9) := ⟨⟨ST.out.1.below bx, ST.out.2⟩, h0, hWO⟩
      clear h0 kk0 bx hO9 hWO ST
      simp only [Act.put, List.setIfInBounds_toArray, List.set_cons_succ, List.set_cons_zero]
      by_cases hil : i < len
      · have k0 : (0 : Int) ≤ (i : Int) := by omega
        have k1 : (i : Int) < (len : Int) := by omega
        have k2 : ((i : Int)).toNat = i := by omega
        have d1 : decide ((i : Int) < (len : Int)) = true := decide_eq_true k1
        have d2 : decide (i < len) = true := decide_eq_true hil
        obtain ⟨⟨kd, tw, oc, os, oi⟩, _, hok, g, of2, rfl, hrg⟩ := op_at2 HS.out.1 S0.out.1.1.ql.q.bel i (by rw [HS.out.2.1]; exact hil)
        have HRG : Hid (x0.rangeAt g (of2 + i * 5) (opC ⟨kd, tw, oc, os, oi⟩).toList) := hrg
        clear hrg hi hlt hok hil
        go_upto_region 16 with (first | (refine wpList_mid_opv (.tmp 56) rfl g (of2 + i * 5) ⟨kd, tw, oc, os, oi⟩ rfl HRG.out rfl ?_) | (refine wpList_store_opv (.tmp 11) (.tmp 57) rfl rfl O9 ⟨2, false, 0, 0, 0⟩ ⟨kd, tw, oc, os, oi⟩ rfl rfl S0.out.2.1 rfl ?_; intro x1 h1 kk1))
        have SB : Hid ((QNI w P G cs t B (.slice (some ⟨gl, 0, none⟩) m cl) (.slice (some ⟨gb, 0, none⟩) m cb) (.slice (some ⟨gs, 0, none⟩) m cs') ms cs (some ⟨ab, off, none⟩) l2 p (.slice (some ⟨gt, 0, none⟩) m tc) ((cs).map CL.tk) x1 ∧ Sv (65535 * (i : Int)) ms ∧ Tz cs ∧ Iv kt cs ms ∧ (cs).length = m ∧ (0 ≤ kt ∧ kt ≤ 1000000)) ∧ OpvAt x1 O9 ⟨kd, tw, oc, os, oi⟩) := ⟨⟨S0.out.1.1.box kk1 S0.out.2.1 S0.out.2.2, S0.out.1.2⟩, h1⟩
        clear h1 kk1 HRG S0
        simp only [Act.put, List.setIfInBounds_toArray, List.set_cons_succ, List.set_cons_zero]
        have c0 : x1.cell? ⟨O9, 0, none⟩ = some (.int .i64 kd) := SB.out.2.cell 0
        have S1 : Hid (QNI w P G cs t B (.slice (some ⟨gl, 0, none⟩) m cl) (.slice (some ⟨gb, 0, none⟩) m cb) (.slice (some ⟨gs, 0, none⟩) m cs') ms cs (some ⟨ab, off, none⟩) l2 p (.slice (some ⟨gt, 0, none⟩) m tc) ((cs).map CL.tk) x1 ∧ Sv (65535 * (i : Int)) ms ∧ Tz cs ∧ Iv kt cs ms ∧ (cs).length = m ∧ (0 ≤ kt ∧ kt ≤ 1000000)) := SB.out.1
        by_cases h1 : kd = 1
        · have q1 : (kd == 1) = true := by simpa using h1
          clear h1
          as_aux_lemma =>
            go_upto_region 18 with fail
            clear c0
            refine MixH.start (fun A => OpvAt A O9 ⟨kd, tw, oc, os, oi⟩) (by kernel_rfl) ?_
            obtain ⟨wA, hwA⟩ : ∃ W_, W_ = x1.drew := ⟨_, rfl⟩
            have bdr : Below x1.heap.size x1 wA := by rw [hwA]; exact (Below.refl _ _).drew
            have SA : Hid (QNI w P G cs t B (.slice (some ⟨gl, 0, none⟩) m cl) (.slice (some ⟨gb, 0, none⟩) m cb) (.slice (some ⟨gs, 0, none⟩) m cs') ms cs (some ⟨ab, off, none⟩) l2 p (.slice (some ⟨gt, 0, none⟩) m tc) ((cs).map CL.tk) wA ∧ Sv (65535 * (i : Int)) ms ∧ Tz cs ∧ Iv kt cs ms ∧ (cs).length = m ∧ (0 ≤ kt ∧ kt ≤ 1000000)) := ⟨S1.out.1.below bdr, S1.out.2⟩
            have hS : OpvAt wA O9 ⟨kd, tw, oc, os, oi⟩ := SB.out.2.below bdr
            obtain ⟨pe, hpe⟩ : ∃ pe, pushE cs oc os = pe := ⟨_, rfl⟩
            have QP : Hid _ := SA.out.1.push oc os oi
            rw [hpe] at QP
            have HPE : Hid (pe = pushE cs oc os) := hpe.symm
            clear hpe
            rw [← hwA]
            clear hwA bdr
            refine MixH.takes [true, true, false, true, true, false, true, false, true] 7 (by kernel_rfl) (by kernel_rfl) (by decide) (by kernel_rfl) hS (fun K hK => ?_)
            simp only [Mix.pick]
            repeat (go_big_quiet_step (fail))
            refine wpQuiet_nil (hK _ ?_)
            clear hK K
            refine MixH.take 6 2 _ (.agg (opC ⟨kd, tw, oc, os, oi⟩)) rfl (by kernel_rfl) (by kernel_rfl) (by kernel_rfl) (by kernel_rfl) (yields_opv (.tmp 11) rfl O9 0 ⟨kd, tw, oc, os, oi⟩ rfl rfl (fun A hA => OpvAt.all hA)) hS (fun a' ha => ?_)
            simp only [Act.put, List.setIfInBounds_toArray, List.set_cons_succ, List.set_cons_zero] at ha
            subst ha
            refine MixH.take 5 5 _ (.int .i64 oc) rfl (by kernel_rfl) (by kernel_rfl) (by kernel_rfl) (by kernel_rfl) (yields_int (.tmp 66) rfl ⟨O9, 2, none⟩ (.int .i64 oc) rfl rfl (fun A hA => OpvAt.cell hA 2)) hS (fun a' ha => ?_)
            simp only [Act.put, List.setIfInBounds_toArray, List.set_cons_succ, List.set_cons_zero] at ha
            subst ha
            refine MixH.take 4 7 _ (.int .i64 os) rfl (by kernel_rfl) (by kernel_rfl) (by kernel_rfl) (by kernel_rfl) (yields_int (.tmp 68) rfl ⟨O9, 3, none⟩ (.int .i64 os) rfl rfl (fun A hA => OpvAt.cell hA 3)) hS (fun a' ha => ?_)
            simp only [Act.put, List.setIfInBounds_toArray, List.set_cons_succ, List.set_cons_zero] at ha
            subst ha
            refine MixH.take 3 9 _ (.int .i64 oi) rfl (by kernel_rfl) (by kernel_rfl) (by kernel_rfl) (by kernel_rfl) (yields_int (.tmp 70) rfl ⟨O9, 4, none⟩ (.int .i64 oi) rfl rfl (fun A hA => OpvAt.cell hA 4)) hS (fun a' ha => ?_)
            simp only [Act.put, List.setIfInBounds_toArray, List.set_cons_succ, List.set_cons_zero] at ha
            subst ha
            refine MixH.one [false, false, false, false, false, false, false, false, false, false, true] 2 10 _ rfl rfl (by kernel_rfl) (by kernel_rfl) (fun K hK => ?_)
            simp only [Mix.pick]
            go_wp2_with fail
            refine Calls.mono (QP.out) ?_
            rintro e4 w4 ⟨rfl, q4, k4⟩
            have H4 : Hid (QNI w P G (pushCs cs oc os oi) t B (.slice (some ⟨gl, 0, none⟩) m cl) (.slice (some ⟨gb, 0, none⟩) m cb) (.slice (some ⟨gs, 0, none⟩) m cs') ms cs (some ⟨ab, off, none⟩) l2 p (.slice (some ⟨gt, 0, none⟩) m tc) (cs.map CL.tk) w4) := q4
            replace hS : OpvAt w4 O9 ⟨kd, tw, oc, os, oi⟩ := k4.2 _ _ hS
            have QD : Hid _ := H4.out.pushed SA.out.1.ql.q.ok m c1 SA.out.2.2.2.2.1 kd oc os oi pe tw HPE.out
            clear q4 k4 QP
            go_wp2_with fail
            refine ⟨rfl, hK _ _ hS ?_⟩
            clear hK K
            refine MixH.one [false, false, false, false, false, false, false, false, false, false, false, true] 1 11 _ rfl rfl (by kernel_rfl) (by kernel_rfl) (fun K hK => ?_)
            simp only [Mix.pick]
            go_wp2_with fail
            refine Calls.mono (num_any pe w4) ?_
            rintro e5 w5 ⟨rfl, rfl⟩
            skip
            go_wp2_with fail
            refine ⟨rfl, hK _ _ hS ?_⟩
            clear hK K
            refine MixH.one [false, false, false, false, false, false, false, false, false, false, false, false, true] 0 12 _ rfl rfl (by kernel_rfl) (by kernel_rfl) (fun K hK => ?_)
            simp only [Mix.pick]
            go_wp2_with fail
            refine Calls.mono (QD.out) ?_
            rintro e6 w6 ⟨rfl, ms6, q6, s6, k6⟩
            have H6 : Hid (QNI w P G (pushCs cs oc os oi) t B (.slice (some ⟨gl, 0, none⟩) m cl) (.slice (some ⟨gb, 0, none⟩) m cb) (.slice (some ⟨gs, 0, none⟩) m cs') ms6 (pushCs cs oc os oi) (some ⟨ab, off, none⟩) l2 p (.slice (some ⟨gt, 0, none⟩) m tc) (((pushCs cs oc os oi)).map CL.tk) w6 ∧ Sv (65535 * ((i : Int) + 1)) ms6 ∧ Tz (pushCs cs oc os oi) ∧ Iv kt (pushCs cs oc os oi) ms6 ∧ ((pushCs cs oc os oi)).length = m ∧ (0 ≤ kt ∧ kt ≤ 1000000)) := ⟨by rw [push_tks]; exact q6, (SA.out.2.1.same s6).mono (by omega), SA.out.2.2.1.push oc os oi, SA.out.2.2.2.1.push s6 oc os oi, by rw [push_len2]; exact SA.out.2.2.2.2.1, SA.out.2.2.2.2.2⟩
            replace hS : OpvAt w6 O9 ⟨kd, tw, oc, os, oi⟩ := k6.2 _ _ hS
            clear q6 s6 k6 QD H4
            go_wp2_with fail
            refine ⟨rfl, hK _ _ hS ?_⟩
            clear hK K
            refine MixH.done (by kernel_rfl) ?_
            clear hS SA S1 SB
            go_wp2_with fail
            go_roundw
            case rel => exact ⟨i + 1, kt, _, _, _, by first | rfl | go_num, by first | rfl | go_num, by have := HLT.out; omega, by have h1 := H6.out; rw [show (((i + 1 : Nat)) : Int) = (i : Int) + 1 by omega]; exact h1⟩
            case measure => have := HLT.out; simp [intOf]; omega
        · have q1 : (kd == 1) = false := by simpa using h1
          by_cases h4 : kd = 4
          · have q4 : (kd == 4) = true := by simpa using h4
            clear h1 h4
            go_wp2_with fail
            refine Calls.mono S1.out.1.qtick ?_
            rintro e5 w5 ⟨rfl, q5⟩
            have H5 : Hid (QNI w P G (cs.map fillC) t B (.slice (some ⟨gl, 0, none⟩) m cl) (.slice (some ⟨gb, 0, none⟩) m cb) (.slice (some ⟨gs, 0, none⟩) m cs') ms (cs.map fillC) (some ⟨ab, off, none⟩) l2 p (.slice (some ⟨gt, 0, none⟩) m tc) (cs.map CL.tk) w5) := q5
            have QV : Hid _ := H5.out.ptick S1.out.1.ql.q.ok S1.out.2.2.1 m c1 S1.out.2.2.2.2.1
            clear q5 c0
            go_wp2_with fail
            refine Calls.mono QV.out ?_
            rintro e6 w6 ⟨rfl, q6⟩
            have H6' : Hid (QNI w P G (cs.map fillC) t B (.slice (some ⟨gl, 0, none⟩) m cl) (.slice (some ⟨gb, 0, none⟩) m cb) (.slice (some ⟨gs, 0, none⟩) m cs') ms (cs.map fillC) (some ⟨ab, off, none⟩) l2 p (.slice (some ⟨gt, 0, none⟩) m tc) ((cs.map fillC).map CL.tk) w6) := q6
            clear q6 QV H5
            by_cases hkt : kt < 1000000
            · have t1 : decide (kt < 1000000) = true := decide_eq_true hkt
              have hk0 := S1.out.2.2.2.2.2.1
              have wt : IntKind.i64.wrap (kt + 1) = kt + 1 := i64_s _ (by omega) (by omega)
              have H6 : Hid (QNI w P G (cs.map fillC) t B (.slice (some ⟨gl, 0, none⟩) m cl) (.slice (some ⟨gb, 0, none⟩) m cb) (.slice (some ⟨gs, 0, none⟩) m cs') ms (cs.map fillC) (some ⟨ab, off, none⟩) l2 p (.slice (some ⟨gt, 0, none⟩) m tc) (((cs.map fillC)).map CL.tk) w6 ∧ Sv (65535 * ((i : Int) + 1)) ms ∧ Tz (cs.map fillC) ∧ Iv (kt + 1) (cs.map fillC) ms ∧ ((cs.map fillC)).length = m ∧ (0 ≤ (kt + 1) ∧ (kt + 1) ≤ 1000000)) := ⟨H6'.out, S1.out.2.1.mono (by omega), S1.out.2.2.1.fill, S1.out.2.2.2.1.fill S1.out.1.ql.ag.len (by rw [if_pos hkt]), by rw [List.length_map]; exact S1.out.2.2.2.2.1, by omega, by omega⟩
              clear hkt hk0 H6'
              go_wp2_with fail
              go_roundw
              case rel => exact ⟨i + 1, (kt + 1), _, _, _, by first | rfl | go_num, by first | rfl | go_num, by have := HLT.out; omega, by have h1 := H6.out; rw [show (((i + 1 : Nat)) : Int) = (i : Int) + 1 by omega]; exact h1⟩
              case measure => have := HLT.out; simp [intOf]; omega
            · have t1 : decide (kt < 1000000) = false := decide_eq_false hkt
              have H6 : Hid (QNI w P G (cs.map fillC) t B (.slice (some ⟨gl, 0, none⟩) m cl) (.slice (some ⟨gb, 0, none⟩) m cb) (.slice (some ⟨gs, 0, none⟩) m cs') ms (cs.map fillC) (some ⟨ab, off, none⟩) l2 p (.slice (some ⟨gt, 0, none⟩) m tc) (((cs.map fillC)).map CL.tk) w6 ∧ Sv (65535 * ((i : Int) + 1)) ms ∧ Tz (cs.map fillC) ∧ Iv kt (cs.map fillC) ms ∧ ((cs.map fillC)).length = m ∧ (0 ≤ kt ∧ kt ≤ 1000000)) := ⟨H6'.out, S1.out.2.1.mono (by omega), S1.out.2.2.1.fill, S1.out.2.2.2.1.fill S1.out.1.ql.ag.len (by rw [if_neg hkt]), by rw [List.length_map]; exact S1.out.2.2.2.2.1, S1.out.2.2.2.2.2⟩
              clear hkt H6'
              go_wp2_with fail
              go_roundw
              case rel => exact ⟨i + 1, kt, _, _, _, by first | rfl | go_num, by first | rfl | go_num, by have := HLT.out; omega, by have h1 := H6.out; rw [show (((i + 1 : Nat)) : Int) = (i : Int) + 1 by omega]; exact h1⟩
              case measure => have := HLT.out; simp [intOf]; omega
          · have q4 : (kd == 4) = false := by simpa using h4
            by_cases h2 : kd = 2
            · have q2 : (kd == 2) = true := by simpa using h2
              clear h1 h2 h4 SB
              as_aux_lemma =>
                go_upto_region 25 with fail
                go_wp2_with fail
                go_loopw [12, 13] (fun bx jx wj => ∃ (k : Nat) (sb : Bool), bx = .bool sb ∧ jx = .int .i64 (k : Nat) ∧ k ≤ m ∧ Hid (QNI w P G cs t B (.slice (some ⟨gl, 0, none⟩) m cl) (.slice (some ⟨gb, 0, none⟩) m cb) (.slice (some ⟨gs, 0, none⟩) m cs') ms cs (some ⟨ab, off, none⟩) l2 p (.slice (some ⟨gt, 0, none⟩) m tc) (cs.map CL.tk) wj ∧ (cs.take k).any CL.rdy = sb)) (fun _ jx _ => m - (intOf jx).toNat)
                case atStart => exact ⟨0, false, rfl, rfl, Nat.zero_le _, S1.out.1, rfl⟩
                case round =>
                  obtain ⟨k, sb, rfl, rfl, hk, HI⟩ := hrel
                  by_cases hkm : k < m
                  · have p1 : decide ((k : Int) < (m : Int)) = true := decide_eq_true (by omega)
                    have p2 : decide (k < m) = true := decide_eq_true hkm
                    have wk : IntKind.i64.wrap ((k : Int) + 1) = (k : Int) + 1 := i64_s _ (by omega) (by omega)
                    have HKM : Hid (k < m) := hkm
                    have QR : Hid _ := HI.out.1.ready m c1 S1.out.2.2.2.2.1 k hkm
                    obtain ⟨r, hr⟩ : ∃ r, (cAt cs k).rdy = r := ⟨_, rfl⟩
                    rw [hr] at QR
                    have HR : Hid ((cs.take (k + 1)).any CL.rdy = (sb || r)) := by show _ = _; rw [any_take2 cs k (by rw [S1.out.2.2.2.2.1]; exact hkm), hr, HI.out.2]
                    clear hr hkm hk
                    cases sb with
                    | true =>
                      go_wp2_with fail
                      go_roundw
                      case rel => exact ⟨k + 1, true, rfl, by first | rfl | go_num, by have := HKM.out; omega, HI.out.1, HR.out⟩
                      case measure => have := HKM.out; simp [intOf]; omega
                    | false =>
                      go_wp2_with fail
                      refine Calls.mono QR.out ?_
                      rintro er wq ⟨rfl, qr⟩
                      have HQ : Hid (QNI w P G cs t B (.slice (some ⟨gl, 0, none⟩) m cl) (.slice (some ⟨gb, 0, none⟩) m cb) (.slice (some ⟨gs, 0, none⟩) m cs') ms cs (some ⟨ab, off, none⟩) l2 p (.slice (some ⟨gt, 0, none⟩) m tc) (cs.map CL.tk) wq) := qr
                      clear qr QR
                      go_wp2_with fail
                      go_roundw
                      case rel => exact ⟨k + 1, r, rfl, by first | rfl | go_num, by have := HKM.out; omega, HQ.out, HR.out⟩
                      case measure => have := HKM.out; simp [intOf]; omega
                  · have p1 : decide ((k : Int) < (m : Int)) = false := decide_eq_false (by omega)
                    have p2 : decide (k < m) = false := decide_eq_false hkm
                    have hsb : anyR cs = sb := by
                      have h1 := HI.out.2
                      rwa [show k = cs.length by rw [S1.out.2.2.2.2.1]; omega, List.take_length] at h1
                    have QK : Hid _ := HI.out.1.peek
                    obtain ⟨pn, hpn⟩ : ∃ pn, popN cs t = pn := ⟨_, rfl⟩
                    obtain ⟨pc, hpc⟩ : ∃ pc, popC cs t = pc := ⟨_, rfl⟩
                    rw [hpn, hpc, hsb] at QK
                    clear hkm hk
                    cases sb with
                    | true =>
                      obtain ⟨j, x, M', hj, hrd, hL, e1, e2, e3⟩ := pop_at HI.out.1.ql.q.ok hsb
                      rw [hpn] at e1
                      rw [hpc] at e2
                      subst e1 e2
                      obtain ⟨y, x2⟩ := x
                      have hjm : j < m := by have := S1.out.2.2.2.2.1; omega
                      have HJ : Hid (j < cs.length ∧ (cAt cs j).L = (y, x2) :: M' ∧ popQ cs t = cs.set j (takeC (cAt cs j)) ∧ anyR cs = true ∧ popN cs t = y ∧ popC cs t = (j : Int) ∧ (cAt cs j).rdy = true) := ⟨hj, hL, e3, hsb, hpn, hpc, hrd⟩
                      have HJM : Hid (j < m) := hjm
                      have k0 : (0 : Int) ≤ (j : Int) := by omega
                      have k1 : (j : Int) < (m : Int) := by omega
                      have k2 : ((j : Int)).toNat = j := by omega
                      have d1 : decide ((0 : Int) ≤ (j : Int)) = true := decide_eq_true k0
                      have d2 : decide ((j : Int) < (m : Int)) = true := decide_eq_true k1
                      have d3 : decide (j < m) = true := decide_eq_true hjm
                      clear hj hrd hL e3 hsb hpn hpc hjm
                      have QK2 : Hid (Calls Try.prog 23 #[.pointer (some ⟨P, 0, none⟩)] wr fun e w' => e = .returned (.tuple #[.int .i64 y, .int .i64 (j : Int), .bool true]) ∧ QNI w P G cs t B (.slice (some ⟨gl, 0, none⟩) m cl) (.slice (some ⟨gb, 0, none⟩) m cb) (.slice (some ⟨gs, 0, none⟩) m cs') ms cs (some ⟨ab, off, none⟩) l2 p (.slice (some ⟨gt, 0, none⟩) m tc) (cs.map CL.tk) w') := QK.out
                      clear QK
                      go_wp2_with fail
                      refine Calls.mono QK2.out ?_
                      rintro e4 w4 ⟨rfl, q4⟩
                      have H4 : Hid (QNI w P G cs t B (.slice (some ⟨gl, 0, none⟩) m cl) (.slice (some ⟨gb, 0, none⟩) m cb) (.slice (some ⟨gs, 0, none⟩) m cs') ms cs (some ⟨ab, off, none⟩) l2 p (.slice (some ⟨gt, 0, none⟩) m tc) (cs.map CL.tk) w4) := q4
                      have QR : Hid _ := H4.out.ready m c1 S1.out.2.2.2.2.1 j HJM.out
                      rw [HJ.out.2.2.2.2.2.2] at QR
                      clear q4 QK2
                      go_wp2_with fail
                      refine Calls.mono QR.out ?_
                      rintro e5 w5 ⟨rfl, q5⟩
                      have H5 : Hid (QNI w P G cs t B (.slice (some ⟨gl, 0, none⟩) m cl) (.slice (some ⟨gb, 0, none⟩) m cb) (.slice (some ⟨gs, 0, none⟩) m cs') ms cs (some ⟨ab, off, none⟩) l2 p (.slice (some ⟨gt, 0, none⟩) m tc) (cs.map CL.tk) w5) := q5
                      have QP : Hid _ := H5.out.pop
                      rw [HJ.out.2.2.2.1, HJ.out.2.2.2.2.1, HJ.out.2.2.2.2.2.1] at QP
                      clear q5 QR H4
                      go_wp2_with fail
                      refine Calls.mono QP.out ?_
                      rintro e6 w6 ⟨rfl, q6, k6⟩
                      have H6 : Hid (QNI w P G (popQ cs t) (popT cs t) B (.slice (some ⟨gl, 0, none⟩) m cl) (.slice (some ⟨gb, 0, none⟩) m cb) (.slice (some ⟨gs, 0, none⟩) m cs') ms cs (some ⟨ab, off, none⟩) l2 p (.slice (some ⟨gt, 0, none⟩) m tc) (cs.map CL.tk) w6) := q6
                      have QD : Hid _ := H6.out.popped H5.out.ql.q.ok j (y, x2) M' HJ.out.1 HJ.out.2.1 (65535 * (i : Int)) S1.out.2.1 (by have := HLT.out; omega)
                      rw [← HJ.out.2.2.1] at QD
                      obtain ⟨mj, hmj⟩ : ∃ mj, ms[j]? = some mj := ⟨_, List.getElem?_eq_getElem (by rw [H6.out.ql.ag.len]; exact HJ.out.1)⟩
                      have hag := H6.out.ql.ag.at' j mj hmj
                      have hln := H6.out.ql.k.ln mj (List.mem_of_getElem? hmj)
                      rw [hag.1, HJ.out.2.1] at hln
                      obtain ⟨gm, mo, mc, hv, hc, hx2, hxx⟩ := hln.head
                      clear hxx
                      obtain ⟨ml, hml⟩ : ∃ ml, M'.length + 1 = ml := ⟨_, rfl⟩
                      rw [hml] at hv hc
                      have c0 : w6.cell? ⟨B, 0, none⟩ = some (.slice (some ⟨gl, 0, none⟩) m cl) := H6.out.ql.k.at'.cell 0
                      have cv : w6.cell? ⟨gl, j, none⟩ = some (.slice (some ⟨gm, mo, none⟩) ml mc) := H6.out.ql.k.l.cell1 bmV_len hmj (by unfold bmV; rw [hv])
                      have cx2 : w6.cell? ⟨gm, mo, none⟩ = some (.int .i64 x2) := hx2
                      have s1 : decide ((0 : Int) < (ml : Int)) = true := decide_eq_true (by omega)
                      have s2' : decide (0 < ml) = true := decide_eq_true (by omega)
                      have s3 : (0 : Int) < (ml : Int) := by omega
                      clear q6 k6 QP hmj hag hln hv hc hx2 hml
                      go_upto_region 40 with fail
                      clear c0 cv cx2 s1 s2' s3
                      go_wp2_with fail
                      refine Calls.mono QD.out ?_
                      rintro e7 w7 ⟨rfl, ms6, q7, s7, v7⟩
                      obtain ⟨l, hl⟩ : ∃ l, (cAt cs j).li = l := ⟨_, rfl⟩
                      have HLI : Hid ((cAt (popQ cs t) j).li = l) := by show _ = _; rw [HJ.out.2.2.1, cAt_set_same HJ.out.1]; exact hl
                      have hqo := H5.out.ql.q.ok.c HJ.out.1
                      have hlo := hqo.li
                      rw [hl] at hlo
                      obtain ⟨m6, hm6⟩ : ∃ m6, ms6[j]? = some m6 := ⟨_, List.getElem?_eq_getElem (by rw [q7.ql.ag.len, HJ.out.2.2.1, List.length_set]; exact HJ.out.1)⟩
                      obtain ⟨s2, hs2⟩ : ∃ s2, m6.s = s2 := ⟨_, rfl⟩
                      have HS2 : Hid (ms6[j]? = some m6 ∧ m6.s = s2) := ⟨hm6, hs2⟩
                      have H7 : Hid (QNI w P G (popQ cs t) (popT cs t) B (.slice (some ⟨gl, 0, none⟩) m cl) (.slice (some ⟨gb, 0, none⟩) m cb) (.slice (some ⟨gs, 0, none⟩) m cs') ms6 (popQ cs t) (some ⟨ab, off, none⟩) l2 p (.slice (some ⟨gt, 0, none⟩) m tc) (cs.map CL.tk) w7 ∧ Sv (65535 * ((i : Int) + 1)) ms6 ∧ Tz (popQ cs t) ∧ Iv kt (popQ cs t) ms6 ∧ (popQ cs t).length = m ∧ (0 ≤ kt ∧ kt ≤ 1000000)) := ⟨q7, s7.mono (by omega), by rw [HJ.out.2.2.1]; exact S1.out.2.2.1.take HJ.out.1, by rw [HJ.out.2.2.1]; exact S1.out.2.2.2.1.take HJ.out.1 HJ.out.2.1 v7, by rw [HJ.out.2.2.1, List.length_set]; exact S1.out.2.2.2.2.1, S1.out.2.2.2.2.2⟩
                      have hrow := H7.out.1.row j (by rw [H7.out.2.2.2.2.1]; exact HJM.out)
                      rw [HLI.out] at hrow
                      have cr : w7.cell? ⟨ab, off + j * 5 + 3, none⟩ = some (.int .i64 l.ra) := hrow 3 _ rfl
                      clear q7 s7 v7 QD hm6 hs2 H5 H6 hrow
                      by_cases hra : 0 < l.ra
                      · have r1 : decide ((0 : Int) < l.ra) = true := decide_eq_true hra
                        have hiv : kt < 1000000 → s2 ≤ l.bu + kt * l.ra := fun hk => by
                          have h1 := H7.out.2.2.2.1 hk j m6 HS2.out.1 (by rw [HLI.out]; exact hra)
                          rw [HLI.out, HS2.out.2] at h1
                          have h2 := (H7.out.1.ql.q.ok.c (show j < (popQ cs t).length by rw [H7.out.2.2.2.2.1]; exact HJM.out)).tk (by rw [HLI.out]; exact hra)
                          omega
                        have htk := hqo.tk (by rw [hl]; exact hra)
                        obtain ⟨z, hz⟩ : ∃ z, (cAt cs j).tk = z := ⟨_, rfl⟩
                        have hhd := hqo.hd
                        rw [HJ.out.2.1] at hhd
                        have hbu := hlo.bu hra
                        have hra2 := hlo.ra.2
                        rw [hz, hl] at htk
                        have wz : IntKind.i64.wrap (z - x2) = z - x2 := i64_s _ (by have h1 : 0 ≤ x2 ∧ x2 ≤ 65535 := hhd; omega) (by have h1 : 0 ≤ x2 ∧ x2 ≤ 65535 := hhd; omega)
                        have HTS : Hid ((cs.map CL.tk)[j]? = some z ∧ (popQ cs t).map CL.tk = (cs.map CL.tk).set j (z - x2)) := ⟨by rw [List.getElem?_map, cAt_get HJ.out.1, ← hz]; rfl, by rw [HJ.out.2.2.1, take_tks HJ.out.2.1 (by rw [hl]; exact hra), hz]⟩
                        have hkr : 0 ≤ kt * l.ra ∧ kt * l.ra ≤ 67108864000000 := by
                          have h1 := S1.out.2.2.2.2.2
                          constructor
                          · exact Int.mul_nonneg h1.1 (by omega)
                          · calc kt * l.ra ≤ 1000000 * 67108864 := Int.mul_le_mul h1.2 hra2 (by omega) (by omega)
                              _ = 67108864000000 := by decide
                        have wm1 : IntKind.i64.wrap (kt * l.ra) = kt * l.ra := i64_s _ (by omega) (by omega)
                        have wm2 : IntKind.i64.wrap (l.bu + kt * l.ra) = l.bu + kt * l.ra := i64_s _ (by omega) (by omega)
                        clear hra htk hz hhd hbu hra2 hl hqo hlo hkr
                        as_aux_lemma =>
                          go_upto_region 43 with fail
                          clear cr
                          refine MixH.start (fun A => PurAt A p (.slice (some ⟨gt, 0, none⟩) m tc)) (by kernel_rfl) ?_
                          obtain ⟨wX, hwA⟩ : ∃ W_, W_ = w7.drew := ⟨_, rfl⟩
                          have bdr : Below w7.heap.size w7 wX := by rw [hwA]; exact (Below.refl _ _).drew
                          have HX : Hid (QNI w P G (popQ cs t) (popT cs t) B (.slice (some ⟨gl, 0, none⟩) m cl) (.slice (some ⟨gb, 0, none⟩) m cb) (.slice (some ⟨gs, 0, none⟩) m cs') ms6 (popQ cs t) (some ⟨ab, off, none⟩) l2 p (.slice (some ⟨gt, 0, none⟩) m tc) (cs.map CL.tk) wX) := H7.out.1.below bdr
                          have hS : PurAt wX p (.slice (some ⟨gt, 0, none⟩) m tc) := HX.out.pk.at'
                          rw [← hwA]
                          clear hwA bdr
                          refine MixH.takes [true, true, true, false, true, true, true, true, false, true, false, false, true] 7 (by kernel_rfl) (by kernel_rfl) (by decide) (by kernel_rfl) hS (fun K hK => ?_)
                          simp only [Mix.pick]
                          repeat (go_big_quiet_step (fail))
                          refine wpQuiet_nil (hK _ ?_)
                          clear hK K
                          refine MixH.take 6 3 _ ((.slice (some ⟨gt, 0, none⟩) m tc)) rfl (by kernel_rfl) (by kernel_rfl) (by kernel_rfl) (by kernel_rfl) (yields_bkn (.tmp 180) rfl ⟨p, 0, none⟩ ((.slice (some ⟨gt, 0, none⟩) m tc)) rfl rfl (fun A hA => hA.cell)) hS (fun a' ha => ?_)
                          simp only [Act.put, List.setIfInBounds_toArray, List.set_cons_succ, List.set_cons_zero] at ha
                          subst ha
                          refine MixH.take 5 8 _ ((.slice (some ⟨gt, 0, none⟩) m tc)) rfl (by kernel_rfl) (by kernel_rfl) (by kernel_rfl) (by kernel_rfl) (yields_bkn (.tmp 185) rfl ⟨p, 0, none⟩ ((.slice (some ⟨gt, 0, none⟩) m tc)) rfl rfl (fun A hA => hA.cell)) hS (fun a' ha => ?_)
                          simp only [Act.put, List.setIfInBounds_toArray, List.set_cons_succ, List.set_cons_zero] at ha
                          subst ha
                          refine MixH.takes [false, false, false, false, false, false, false, false, false, false, true] 4 (by kernel_rfl) (by kernel_rfl) (by decide) (by kernel_rfl) hS (fun K hK => ?_)
                          simp only [Mix.pick]
                          repeat (go_big_quiet_step (fail))
                          refine wpQuiet_nil (hK _ ?_)
                          clear hK K
                          refine MixH.one [false, false, false, false, false, false, false, false, false, false, false, true] 3 11 _ rfl rfl (by kernel_rfl) (by kernel_rfl) (fun K hK => ?_)
                          simp only [Mix.pick]
                          have cT : wX.cell? ⟨gt, j, none⟩ = some (.int .i64 z) := HX.out.pk.t.cell1 inL_len HTS.out.1 rfl
                          go_wp2_with fail
                          clear cT
                          refine ⟨rfl, hK _ _ hS ?_⟩
                          clear hK K
                          refine MixH.takes [false, false, false, false, false, false, false, false, false, false, false, false, false, true, true] 1 (by kernel_rfl) (by kernel_rfl) (by decide) (by kernel_rfl) hS (fun K hK => ?_)
                          simp only [Mix.pick]
                          repeat (go_big_quiet_step (fail))
                          refine wpQuiet_nil (hK _ ?_)
                          clear hK K
                          refine MixH.one [false, false, false, false, false, false, false, false, false, false, false, false, false, false, false, true] 0 15 _ rfl rfl (by kernel_rfl) (by kernel_rfl) (fun K hK => ?_)
                          simp only [Mix.pick]
                          have cT : wX.cell? ⟨gt, j, none⟩ = some (.int .i64 z) := HX.out.pk.t.cell1 inL_len HTS.out.1 rfl
                          have zT := HX.out.pk.t.frozen j
                          have kk : Ch (fun q => q = gt) wX (wX.setCell ⟨gt, j, none⟩ (.int .i64 (z - x2))) := (Ch.refl (fun q => q = gt) wX).set ⟨gt, j, none⟩ _ rfl
                          have hpg : ¬ p = gt := fun e => by
                            have h1 := HX.out.pk.at'
                            rw [e] at h1
                            obtain ⟨_, _, c, hc⟩ := HX.out.pk.t.kind gt rfl
                            exact tk_ne h1 hc (by decide)
                          have H8 : Hid (QNI w P G (popQ cs t) (popT cs t) B (.slice (some ⟨gl, 0, none⟩) m cl) (.slice (some ⟨gb, 0, none⟩) m cb) (.slice (some ⟨gs, 0, none⟩) m cs') ms6 (popQ cs t) (some ⟨ab, off, none⟩) l2 p (.slice (some ⟨gt, 0, none⟩) m tc) (((popQ cs t)).map CL.tk) (wX.setCell ⟨gt, j, none⟩ (.int .i64 (z - x2))) ∧ Sv (65535 * ((i : Int) + 1)) ms6 ∧ Tz (popQ cs t) ∧ Iv kt (popQ cs t) ms6 ∧ ((popQ cs t)).length = m ∧ (0 ≤ kt ∧ kt ≤ 1000000)) := by
                            have h1 := HX.out.setT (ts' := (popQ cs t).map CL.tk) (kk.mono (fun q _ e => by have e' : q = gt := e; rw [e']; rfl)) ⟨HX.out.pk.lo, HX.out.pk.at'.ch kk hpg, by rw [HTS.out.2]; exact HX.out.pk.t.set1 inL_len (u := .int .i64 (z - x2)) rfl (List.getElem?_eq_some_iff.1 HTS.out.1).1⟩
                            exact ⟨h1.1, H7.out.2⟩
                          replace hS : PurAt (wX.setCell ⟨gt, j, none⟩ (.int .i64 (z - x2))) p (.slice (some ⟨gt, 0, none⟩) m tc) := hS.ch kk hpg
                          clear kk hpg
                          go_wp2_with fail
                          clear cT zT
                          refine ⟨rfl, hK _ _ hS ?_⟩
                          clear hK K
                          refine MixH.done (by kernel_rfl) ?_
                          clear hS
                          obtain ⟨w8, hw8⟩ : ∃ y, wX.setCell ⟨gt, j, none⟩ (.int .i64 (z - x2)) = y := ⟨_, rfl⟩
                          rw [hw8] at H8 ⊢
                          clear hw8 H7 HX
                          by_cases hkt : kt < 1000000
                          · have t1 : decide (kt < 1000000) = true := decide_eq_true hkt
                            have t2 : decide (l.bu + kt * l.ra < s2) = false := decide_eq_false (by have := hiv hkt; omega)
                            clear hkt hiv
                            as_aux_lemma =>
                              go_upto_region 44 with fail
                              refine MixH.start (fun A => A.rangeAt ab (off + j * 5) (liA l).toList ∧ BovAt A B (.slice (some ⟨gl, 0, none⟩) m cl) (.slice (some ⟨gb, 0, none⟩) m cb) (.slice (some ⟨gs, 0, none⟩) m cs') ∧ A.cell? ⟨gs, j, none⟩ = some (.int .i64 s2)) (by kernel_rfl) ?_
                              obtain ⟨wZ, hwA⟩ : ∃ W_, W_ = w8.drew := ⟨_, rfl⟩
                              have bdr : Below w8.heap.size w8 wZ := by rw [hwA]; exact (Below.refl _ _).drew
                              have HZ : Hid (QNI w P G (popQ cs t) (popT cs t) B (.slice (some ⟨gl, 0, none⟩) m cl) (.slice (some ⟨gb, 0, none⟩) m cb) (.slice (some ⟨gs, 0, none⟩) m cs') ms6 (popQ cs t) (some ⟨ab, off, none⟩) l2 p (.slice (some ⟨gt, 0, none⟩) m tc) (((popQ cs t)).map CL.tk) wZ ∧ Sv (65535 * ((i : Int) + 1)) ms6 ∧ Tz (popQ cs t) ∧ Iv kt (popQ cs t) ms6 ∧ ((popQ cs t)).length = m ∧ (0 ≤ kt ∧ kt ≤ 1000000)) := ⟨H8.out.1.below bdr, H8.out.2⟩
                              have hS : wZ.rangeAt ab (off + j * 5) (liA l).toList ∧ BovAt wZ B (.slice (some ⟨gl, 0, none⟩) m cl) (.slice (some ⟨gb, 0, none⟩) m cb) (.slice (some ⟨gs, 0, none⟩) m cs') ∧ wZ.cell? ⟨gs, j, none⟩ = some (.int .i64 s2) := ⟨by have h1 := HZ.out.1.row j (by rw [HZ.out.2.2.2.2.1]; exact HJM.out); rw [HLI.out] at h1; exact h1, HZ.out.1.ql.k.at', HZ.out.1.ql.k.s.cell1 bmS_len HS2.out.1 (by unfold bmS; rw [HS2.out.2])⟩
                              rw [← hwA]
                              clear hwA bdr
                              refine MixH.takes [true, true, true, true] 29 (by kernel_rfl) (by kernel_rfl) (by decide) (by kernel_rfl) hS (fun K hK => ?_)
                              simp only [Mix.pick]
                              repeat (go_big_quiet_step (fail))
                              refine wpQuiet_nil (hK _ ?_)
                              clear hK K
                              refine MixH.take 28 4 _ (.int .i64 l.ra) rfl (by kernel_rfl) (by kernel_rfl) (by kernel_rfl) (by kernel_rfl) (yields_int (.tmp 196) rfl ⟨ab, off + j * 5 + 3, none⟩ (.int .i64 l.ra) rfl rfl (fun A hA => hA.1 3 _ rfl)) hS (fun a' ha => ?_)
                              simp only [Act.put, List.setIfInBounds_toArray, List.set_cons_succ, List.set_cons_zero] at ha
                              subst ha
                              refine MixH.takes [false, false, false, false, false, true, true, true, true, true, true, true, true, true, false, true, false, false, true, true, true, true, false, true, true, true, true, true] 9 (by kernel_rfl) (by kernel_rfl) (by decide) (by kernel_rfl) hS (fun K hK => ?_)
                              simp only [Mix.pick]
                              repeat (go_big_quiet_step (fail))
                              refine wpQuiet_nil (hK _ ?_)
                              clear hK K
                              refine MixH.take 8 14 _ ((.slice (some ⟨gs, 0, none⟩) m cs')) rfl (by kernel_rfl) (by kernel_rfl) (by kernel_rfl) (by kernel_rfl) (yields_bkn (.tmp 206) rfl ⟨B, 2, none⟩ ((.slice (some ⟨gs, 0, none⟩) m cs')) rfl rfl (fun A hA => hA.2.1.cell 2)) hS (fun a' ha => ?_)
                              simp only [Act.put, List.setIfInBounds_toArray, List.set_cons_succ, List.set_cons_zero] at ha
                              subst ha
                              refine MixH.takes [false, false, false, false, false, false, false, false, false, false, false, false, false, false, false, false, true] 7 (by kernel_rfl) (by kernel_rfl) (by decide) (by kernel_rfl) hS (fun K hK => ?_)
                              simp only [Mix.pick]
                              repeat (go_big_quiet_step (fail))
                              refine wpQuiet_nil (hK _ ?_)
                              clear hK K
                              refine MixH.take 6 17 _ (.int .i64 s2) rfl (by kernel_rfl) (by kernel_rfl) (by kernel_rfl) (by kernel_rfl) (yields_int (.tmp 209) rfl ⟨gs, j, none⟩ (.int .i64 s2) rfl rfl (fun A hA => hA.2.2)) hS (fun a' ha => ?_)
                              simp only [Act.put, List.setIfInBounds_toArray, List.set_cons_succ, List.set_cons_zero] at ha
                              subst ha
                              refine MixH.take 5 22 _ (.int .i64 l.bu) rfl (by kernel_rfl) (by kernel_rfl) (by kernel_rfl) (by kernel_rfl) (yields_int (.tmp 214) rfl ⟨ab, off + j * 5 + 4, none⟩ (.int .i64 l.bu) rfl rfl (fun A hA => hA.1 4 _ rfl)) hS (fun a' ha => ?_)
                              simp only [Act.put, List.setIfInBounds_toArray, List.set_cons_succ, List.set_cons_zero] at ha
                              subst ha
                              refine MixH.take 4 28 _ (.int .i64 l.ra) rfl (by kernel_rfl) (by kernel_rfl) (by kernel_rfl) (by kernel_rfl) (yields_int (.tmp 220) rfl ⟨ab, off + j * 5 + 3, none⟩ (.int .i64 l.ra) rfl rfl (fun A hA => hA.1 3 _ rfl)) hS (fun a' ha => ?_)
                              simp only [Act.put, List.setIfInBounds_toArray, List.set_cons_succ, List.set_cons_zero] at ha
                              subst ha
                              refine MixH.takes [false, false, false, false, false, false, false, false, false, false, false, false, false, false, false, false, false, false, false, false, false, false, false, false, false, false, false, false, false, true, true, true, true] 0 (by kernel_rfl) (by kernel_rfl) (by decide) (by kernel_rfl) hS (fun K hK => ?_)
                              simp only [Mix.pick]
                              repeat (go_big_quiet_step (fail))
                              refine wpQuiet_nil (hK _ ?_)
                              clear hK K
                              refine MixH.done (by kernel_rfl) ?_
                              clear hS
                              go_wp2_with fail
                              go_roundw
                              case rel => exact ⟨i + 1, kt, _, _, _, by first | rfl | go_num, by first | rfl | go_num, by have := HLT.out; omega, by have h1 := HZ.out; rw [show (((i + 1 : Nat)) : Int) = (i : Int) + 1 by omega]; exact h1⟩
                              case measure => have := HLT.out; simp [intOf]; omega
                          · have t1 : decide (kt < 1000000) = false := decide_eq_false hkt
                            clear hkt hiv
                            as_aux_lemma =>
                              go_upto_region 44 with fail
                              refine MixH.start (fun A => A.rangeAt ab (off + j * 5) (liA l).toList ∧ BovAt A B (.slice (some ⟨gl, 0, none⟩) m cl) (.slice (some ⟨gb, 0, none⟩) m cb) (.slice (some ⟨gs, 0, none⟩) m cs') ∧ A.cell? ⟨gs, j, none⟩ = some (.int .i64 s2)) (by kernel_rfl) ?_
                              obtain ⟨wZ, hwA⟩ : ∃ W_, W_ = w8.drew := ⟨_, rfl⟩
                              have bdr : Below w8.heap.size w8 wZ := by rw [hwA]; exact (Below.refl _ _).drew
                              have HZ : Hid (QNI w P G (popQ cs t) (popT cs t) B (.slice (some ⟨gl, 0, none⟩) m cl) (.slice (some ⟨gb, 0, none⟩) m cb) (.slice (some ⟨gs, 0, none⟩) m cs') ms6 (popQ cs t) (some ⟨ab, off, none⟩) l2 p (.slice (some ⟨gt, 0, none⟩) m tc) (((popQ cs t)).map CL.tk) wZ ∧ Sv (65535 * ((i : Int) + 1)) ms6 ∧ Tz (popQ cs t) ∧ Iv kt (popQ cs t) ms6 ∧ ((popQ cs t)).length = m ∧ (0 ≤ kt ∧ kt ≤ 1000000)) := ⟨H8.out.1.below bdr, H8.out.2⟩
                              have hS : wZ.rangeAt ab (off + j * 5) (liA l).toList ∧ BovAt wZ B (.slice (some ⟨gl, 0, none⟩) m cl) (.slice (some ⟨gb, 0, none⟩) m cb) (.slice (some ⟨gs, 0, none⟩) m cs') ∧ wZ.cell? ⟨gs, j, none⟩ = some (.int .i64 s2) := ⟨by have h1 := HZ.out.1.row j (by rw [HZ.out.2.2.2.2.1]; exact HJM.out); rw [HLI.out] at h1; exact h1, HZ.out.1.ql.k.at', HZ.out.1.ql.k.s.cell1 bmS_len HS2.out.1 (by unfold bmS; rw [HS2.out.2])⟩
                              rw [← hwA]
                              clear hwA bdr
                              refine MixH.takes [true, true, true, true] 29 (by kernel_rfl) (by kernel_rfl) (by decide) (by kernel_rfl) hS (fun K hK => ?_)
                              simp only [Mix.pick]
                              repeat (go_big_quiet_step (fail))
                              refine wpQuiet_nil (hK _ ?_)
                              clear hK K
                              refine MixH.take 28 4 _ (.int .i64 l.ra) rfl (by kernel_rfl) (by kernel_rfl) (by kernel_rfl) (by kernel_rfl) (yields_int (.tmp 196) rfl ⟨ab, off + j * 5 + 3, none⟩ (.int .i64 l.ra) rfl rfl (fun A hA => hA.1 3 _ rfl)) hS (fun a' ha => ?_)
                              simp only [Act.put, List.setIfInBounds_toArray, List.set_cons_succ, List.set_cons_zero] at ha
                              subst ha
                              refine MixH.takes [false, false, false, false, false, true, true, true, true, true, true, true, true, true, false, true, false, false, true, true, true, true, false, true, true, true, true, true] 9 (by kernel_rfl) (by kernel_rfl) (by decide) (by kernel_rfl) hS (fun K hK => ?_)
                              simp only [Mix.pick]
                              repeat (go_big_quiet_step (fail))
                              refine wpQuiet_nil (hK _ ?_)
                              clear hK K
                              refine MixH.take 8 14 _ (undef) rfl (by kernel_rfl) (by kernel_rfl) (by kernel_rfl) (by kernel_rfl) (.inr ⟨rfl, rfl⟩) hS (fun a' ha => ?_)
                              simp only [Act.put, List.setIfInBounds_toArray, List.set_cons_succ, List.set_cons_zero] at ha
                              subst ha
                              refine MixH.takes [false, false, false, false, false, false, false, false, false, false, false, false, false, false, false, false, true] 7 (by kernel_rfl) (by kernel_rfl) (by decide) (by kernel_rfl) hS (fun K hK => ?_)
                              simp only [Mix.pick]
                              repeat (go_big_quiet_step (fail))
                              refine wpQuiet_nil (hK _ ?_)
                              clear hK K
                              refine MixH.take 6 17 _ (undef) rfl (by kernel_rfl) (by kernel_rfl) (by kernel_rfl) (by kernel_rfl) (.inr ⟨rfl, rfl⟩) hS (fun a' ha => ?_)
                              simp only [Act.put, List.setIfInBounds_toArray, List.set_cons_succ, List.set_cons_zero] at ha
                              subst ha
                              refine MixH.take 5 22 _ (undef) rfl (by kernel_rfl) (by kernel_rfl) (by kernel_rfl) (by kernel_rfl) (.inr ⟨rfl, rfl⟩) hS (fun a' ha => ?_)
                              simp only [Act.put, List.setIfInBounds_toArray, List.set_cons_succ, List.set_cons_zero] at ha
                              subst ha
                              refine MixH.take 4 28 _ (undef) rfl (by kernel_rfl) (by kernel_rfl) (by kernel_rfl) (by kernel_rfl) (.inr ⟨rfl, rfl⟩) hS (fun a' ha => ?_)
                              simp only [Act.put, List.setIfInBounds_toArray, List.set_cons_succ, List.set_cons_zero] at ha
                              subst ha
                              refine MixH.takes [false, false, false, false, false, false, false, false, false, false, false, false, false, false, false, false, false, false, false, false, false, false, false, false, false, false, false, false, false, true, true, true, true] 0 (by kernel_rfl) (by kernel_rfl) (by decide) (by kernel_rfl) hS (fun K hK => ?_)
                              simp only [Mix.pick]
                              repeat (go_big_quiet_step (fail))
                              refine wpQuiet_nil (hK _ ?_)
                              clear hK K
                              refine MixH.done (by kernel_rfl) ?_
                              clear hS
                              go_wp2_with fail
                              go_roundw
                              case rel => exact ⟨i + 1, kt, _, _, _, by first | rfl | go_num, by first | rfl | go_num, by have := HLT.out; omega, by have h1 := HZ.out; rw [show (((i + 1 : Nat)) : Int) = (i : Int) + 1 by omega]; exact h1⟩
                              case measure => have := HLT.out; simp [intOf]; omega
                      · have r1 : decide ((0 : Int) < l.ra) = false := decide_eq_false hra
                        have H8 : Hid (QNI w P G (popQ cs t) (popT cs t) B (.slice (some ⟨gl, 0, none⟩) m cl) (.slice (some ⟨gb, 0, none⟩) m cb) (.slice (some ⟨gs, 0, none⟩) m cs') ms6 (popQ cs t) (some ⟨ab, off, none⟩) l2 p (.slice (some ⟨gt, 0, none⟩) m tc) (((popQ cs t)).map CL.tk) w7 ∧ Sv (65535 * ((i : Int) + 1)) ms6 ∧ Tz (popQ cs t) ∧ Iv kt (popQ cs t) ms6 ∧ ((popQ cs t)).length = m ∧ (0 ≤ kt ∧ kt ≤ 1000000)) := ⟨by have h1 := H7.out.1; rw [HJ.out.2.2.1, take_tks0 HJ.out.1 (by rw [hl]; exact hra), ← HJ.out.2.2.1]; exact h1, H7.out.2⟩
                        clear hra hl hqo hlo H7
                        as_aux_lemma =>
                          go_upto_region 44 with fail
                          refine MixH.start (fun A => A.rangeAt ab (off + j * 5) (liA l).toList ∧ BovAt A B (.slice (some ⟨gl, 0, none⟩) m cl) (.slice (some ⟨gb, 0, none⟩) m cb) (.slice (some ⟨gs, 0, none⟩) m cs') ∧ A.cell? ⟨gs, j, none⟩ = some (.int .i64 s2)) (by kernel_rfl) ?_
                          obtain ⟨wZ, hwA⟩ : ∃ W_, W_ = w7.drew := ⟨_, rfl⟩
                          have bdr : Below w7.heap.size w7 wZ := by rw [hwA]; exact (Below.refl _ _).drew
                          have HZ : Hid (QNI w P G (popQ cs t) (popT cs t) B (.slice (some ⟨gl, 0, none⟩) m cl) (.slice (some ⟨gb, 0, none⟩) m cb) (.slice (some ⟨gs, 0, none⟩) m cs') ms6 (popQ cs t) (some ⟨ab, off, none⟩) l2 p (.slice (some ⟨gt, 0, none⟩) m tc) (((popQ cs t)).map CL.tk) wZ ∧ Sv (65535 * ((i : Int) + 1)) ms6 ∧ Tz (popQ cs t) ∧ Iv kt (popQ cs t) ms6 ∧ ((popQ cs t)).length = m ∧ (0 ≤ kt ∧ kt ≤ 1000000)) := ⟨H8.out.1.below bdr, H8.out.2⟩
                          have hS : wZ.rangeAt ab (off + j * 5) (liA l).toList ∧ BovAt wZ B (.slice (some ⟨gl, 0, none⟩) m cl) (.slice (some ⟨gb, 0, none⟩) m cb) (.slice (some ⟨gs, 0, none⟩) m cs') ∧ wZ.cell? ⟨gs, j, none⟩ = some (.int .i64 s2) := ⟨by have h1 := HZ.out.1.row j (by rw [HZ.out.2.2.2.2.1]; exact HJM.out); rw [HLI.out] at h1; exact h1, HZ.out.1.ql.k.at', HZ.out.1.ql.k.s.cell1 bmS_len HS2.out.1 (by unfold bmS; rw [HS2.out.2])⟩
                          rw [← hwA]
                          clear hwA bdr
                          refine MixH.takes [true, true, true, true] 29 (by kernel_rfl) (by kernel_rfl) (by decide) (by kernel_rfl) hS (fun K hK => ?_)
                          simp only [Mix.pick]
                          repeat (go_big_quiet_step (fail))
                          refine wpQuiet_nil (hK _ ?_)
                          clear hK K
                          refine MixH.take 28 4 _ (.int .i64 l.ra) rfl (by kernel_rfl) (by kernel_rfl) (by kernel_rfl) (by kernel_rfl) (yields_int (.tmp 196) rfl ⟨ab, off + j * 5 + 3, none⟩ (.int .i64 l.ra) rfl rfl (fun A hA => hA.1 3 _ rfl)) hS (fun a' ha => ?_)
                          simp only [Act.put, List.setIfInBounds_toArray, List.set_cons_succ, List.set_cons_zero] at ha
                          subst ha
                          refine MixH.takes [false, false, false, false, false, true, true, true, true, true, true, true, true, true, false, true, false, false, true, true, true, true, false, true, true, true, true, true] 9 (by kernel_rfl) (by kernel_rfl) (by decide) (by kernel_rfl) hS (fun K hK => ?_)
                          simp only [Mix.pick]
                          repeat (go_big_quiet_step (fail))
                          refine wpQuiet_nil (hK _ ?_)
                          clear hK K
                          refine MixH.take 8 14 _ (undef) rfl (by kernel_rfl) (by kernel_rfl) (by kernel_rfl) (by kernel_rfl) (.inr ⟨rfl, rfl⟩) hS (fun a' ha => ?_)
                          simp only [Act.put, List.setIfInBounds_toArray, List.set_cons_succ, List.set_cons_zero] at ha
                          subst ha
                          refine MixH.takes [false, false, false, false, false, false, false, false, false, false, false, false, false, false, false, false, true] 7 (by kernel_rfl) (by kernel_rfl) (by decide) (by kernel_rfl) hS (fun K hK => ?_)
                          simp only [Mix.pick]
                          repeat (go_big_quiet_step (fail))
                          refine wpQuiet_nil (hK _ ?_)
                          clear hK K
                          refine MixH.take 6 17 _ (undef) rfl (by kernel_rfl) (by kernel_rfl) (by kernel_rfl) (by kernel_rfl) (.inr ⟨rfl, rfl⟩) hS (fun a' ha => ?_)
                          simp only [Act.put, List.setIfInBounds_toArray, List.set_cons_succ, List.set_cons_zero] at ha
                          subst ha
                          refine MixH.take 5 22 _ (undef) rfl (by kernel_rfl) (by kernel_rfl) (by kernel_rfl) (by kernel_rfl) (.inr ⟨rfl, rfl⟩) hS (fun a' ha => ?_)
                          simp only [Act.put, List.setIfInBounds_toArray, List.set_cons_succ, List.set_cons_zero] at ha
                          subst ha
                          refine MixH.take 4 28 _ (undef) rfl (by kernel_rfl) (by kernel_rfl) (by kernel_rfl) (by kernel_rfl) (.inr ⟨rfl, rfl⟩) hS (fun a' ha => ?_)
                          simp only [Act.put, List.setIfInBounds_toArray, List.set_cons_succ, List.set_cons_zero] at ha
                          subst ha
                          refine MixH.takes [false, false, false, false, false, false, false, false, false, false, false, false, false, false, false, false, false, false, false, false, false, false, false, false, false, false, false, false, false, true, true, true, true] 0 (by kernel_rfl) (by kernel_rfl) (by decide) (by kernel_rfl) hS (fun K hK => ?_)
                          simp only [Mix.pick]
                          repeat (go_big_quiet_step (fail))
                          refine wpQuiet_nil (hK _ ?_)
                          clear hK K
                          refine MixH.done (by kernel_rfl) ?_
                          clear hS
                          go_wp2_with fail
                          go_roundw
                          case rel => exact ⟨i + 1, kt, _, _, _, by first | rfl | go_num, by first | rfl | go_num, by have := HLT.out; omega, by have h1 := HZ.out; rw [show (((i + 1 : Nat)) : Int) = (i : Int) + 1 by omega]; exact h1⟩
                          case measure => have := HLT.out; simp [intOf]; omega
                    | false =>
                      have HJ : Hid (anyR cs = false ∧ popN cs t = pn ∧ popC cs t = pc ∧ popQ cs t = cs) := ⟨hsb, hpn, hpc, by unfold popQ; rw [hsb]; rfl⟩
                      have QK2 : Hid (Calls Try.prog 23 #[.pointer (some ⟨P, 0, none⟩)] wr fun e w' => e = .returned (.tuple #[.int .i64 pn, .int .i64 pc, .bool false]) ∧ QNI w P G cs t B (.slice (some ⟨gl, 0, none⟩) m cl) (.slice (some ⟨gb, 0, none⟩) m cb) (.slice (some ⟨gs, 0, none⟩) m cs') ms cs (some ⟨ab, off, none⟩) l2 p (.slice (some ⟨gt, 0, none⟩) m tc) (cs.map CL.tk) w') := QK.out
                      clear hsb hpn hpc QK
                      go_wp2_with fail
                      refine Calls.mono QK2.out ?_
                      rintro e4 w4 ⟨rfl, q4⟩
                      have H4 : Hid (QNI w P G cs t B (.slice (some ⟨gl, 0, none⟩) m cl) (.slice (some ⟨gb, 0, none⟩) m cb) (.slice (some ⟨gs, 0, none⟩) m cs') ms cs (some ⟨ab, off, none⟩) l2 p (.slice (some ⟨gt, 0, none⟩) m tc) (cs.map CL.tk) w4) := q4
                      have QP : Hid _ := H4.out.pop
                      rw [HJ.out.1, HJ.out.2.1, HJ.out.2.2.1, HJ.out.2.2.2] at QP
                      clear q4 QK2
                      go_wp2_with fail
                      refine Calls.mono QP.out ?_
                      rintro e5 w5 ⟨rfl, q5, k5⟩
                      have H6 : Hid (QNI w P G cs (popT cs t) B (.slice (some ⟨gl, 0, none⟩) m cl) (.slice (some ⟨gb, 0, none⟩) m cb) (.slice (some ⟨gs, 0, none⟩) m cs') ms cs (some ⟨ab, off, none⟩) l2 p (.slice (some ⟨gt, 0, none⟩) m tc) ((cs).map CL.tk) w5 ∧ Sv (65535 * ((i : Int) + 1)) ms ∧ Tz cs ∧ Iv kt cs ms ∧ (cs).length = m ∧ (0 ≤ kt ∧ kt ≤ 1000000)) := ⟨q5, S1.out.2.1.mono (by omega), S1.out.2.2⟩
                      clear q5 k5 QP H4
                      go_wp2_with fail
                      go_roundw
                      case rel => exact ⟨i + 1, kt, _, _, _, by first | rfl | go_num, by first | rfl | go_num, by have := HLT.out; omega, by have h1 := H6.out; rw [show (((i + 1 : Nat)) : Int) = (i : Int) + 1 by omega]; exact h1⟩
                      case measure => have := HLT.out; simp [intOf]; omega
            · have q2 : (kd == 2) = false := by simpa using h2
              have H6 : Hid (QNI w P G cs t B (.slice (some ⟨gl, 0, none⟩) m cl) (.slice (some ⟨gb, 0, none⟩) m cb) (.slice (some ⟨gs, 0, none⟩) m cs') ms cs (some ⟨ab, off, none⟩) l2 p (.slice (some ⟨gt, 0, none⟩) m tc) ((cs).map CL.tk) x1 ∧ Sv (65535 * ((i : Int) + 1)) ms ∧ Tz cs ∧ Iv kt cs ms ∧ (cs).length = m ∧ (0 ≤ kt ∧ kt ≤ 1000000)) := ⟨S1.out.1, S1.out.2.1.mono (by omega), S1.out.2.2⟩
              clear h1 h2 h4 SB S1
              go_wp2_with fail
              go_roundw
              case rel => exact ⟨i + 1, kt, _, _, _, by first | rfl | go_num, by first | rfl | go_num, by have := HLT.out; omega, by have h1 := H6.out; rw [show (((i + 1 : Nat)) : Int) = (i : Int) + 1 by omega]; exact h1⟩
              case measure => have := HLT.out; simp [intOf]; omega
      · have d1 : decide ((i : Int) < (len : Int)) = false := decide_eq_false (by omega)
        have d2 : decide (i < len) = false := decide_eq_false hil
        obtain ⟨x1, hx1⟩ : ∃ x1, x0 = x1 := ⟨_, rfl⟩
        rw [hx1] at S0 ⊢
        have S1 : Hid (QNI w P G cs t B (.slice (some ⟨gl, 0, none⟩) m cl) (.slice (some ⟨gb, 0, none⟩) m cb) (.slice (some ⟨gs, 0, none⟩) m cs') ms cs (some ⟨ab, off, none⟩) l2 p (.slice (some ⟨gt, 0, none⟩) m tc) ((cs).map CL.tk) x1 ∧ Sv (65535 * (i : Int)) ms ∧ Tz cs ∧ Iv kt cs ms ∧ (cs).length = m ∧ (0 ≤ kt ∧ kt ≤ 1000000)) := S0.out.1
        have c0 : x1.cell? ⟨O9, 0, none⟩ = some (.int .i64 2) := S0.out.2.1.cell 0
        clear hil hi hlt hx1 S0
        as_aux_lemma =>
          go_upto_region 25 with fail
          go_wp2_with fail
          go_loopw [12, 13] (fun bx jx wj => ∃ (k : Nat) (sb : Bool), bx = .bool sb ∧ jx = .int .i64 (k : Nat) ∧ k ≤ m ∧ Hid (QNI w P G cs t B (.slice (some ⟨gl, 0, none⟩) m cl) (.slice (some ⟨gb, 0, none⟩) m cb) (.slice (some ⟨gs, 0, none⟩) m cs') ms cs (some ⟨ab, off, none⟩) l2 p (.slice (some ⟨gt, 0, none⟩) m tc) (cs.map CL.tk) wj ∧ (cs.take k).any CL.rdy = sb)) (fun _ jx _ => m - (intOf jx).toNat)
          case atStart => exact ⟨0, false, rfl, rfl, Nat.zero_le _, S1.out.1, rfl⟩
          case round =>
            obtain ⟨k, sb, rfl, rfl, hk, HI⟩ := hrel
            by_cases hkm : k < m
            · have p1 : decide ((k : Int) < (m : Int)) = true := decide_eq_true (by omega)
              have p2 : decide (k < m) = true := decide_eq_true hkm
              have wk : IntKind.i64.wrap ((k : Int) + 1) = (k : Int) + 1 := i64_s _ (by omega) (by omega)
              have HKM : Hid (k < m) := hkm
              have QR : Hid _ := HI.out.1.ready m c1 S1.out.2.2.2.2.1 k hkm
              obtain ⟨r, hr⟩ : ∃ r, (cAt cs k).rdy = r := ⟨_, rfl⟩
              rw [hr] at QR
              have HR : Hid ((cs.take (k + 1)).any CL.rdy = (sb || r)) := by show _ = _; rw [any_take2 cs k (by rw [S1.out.2.2.2.2.1]; exact hkm), hr, HI.out.2]
              clear hr hkm hk
              cases sb with
              | true =>
                go_wp2_with fail
                go_roundw
                case rel => exact ⟨k + 1, true, rfl, by first | rfl | go_num, by have := HKM.out; omega, HI.out.1, HR.out⟩
                case measure => have := HKM.out; simp [intOf]; omega
              | false =>
                go_wp2_with fail
                refine Calls.mono QR.out ?_
                rintro er wq ⟨rfl, qr⟩
                have HQ : Hid (QNI w P G cs t B (.slice (some ⟨gl, 0, none⟩) m cl) (.slice (some ⟨gb, 0, none⟩) m cb) (.slice (some ⟨gs, 0, none⟩) m cs') ms cs (some ⟨ab, off, none⟩) l2 p (.slice (some ⟨gt, 0, none⟩) m tc) (cs.map CL.tk) wq) := qr
                clear qr QR
                go_wp2_with fail
                go_roundw
                case rel => exact ⟨k + 1, r, rfl, by first | rfl | go_num, by have := HKM.out; omega, HQ.out, HR.out⟩
                case measure => have := HKM.out; simp [intOf]; omega
            · have p1 : decide ((k : Int) < (m : Int)) = false := decide_eq_false (by omega)
              have p2 : decide (k < m) = false := decide_eq_false hkm
              have hsb : anyR cs = sb := by
                have h1 := HI.out.2
                rwa [show k = cs.length by rw [S1.out.2.2.2.2.1]; omega, List.take_length] at h1
              have QK : Hid _ := HI.out.1.peek
              obtain ⟨pn, hpn⟩ : ∃ pn, popN cs t = pn := ⟨_, rfl⟩
              obtain ⟨pc, hpc⟩ : ∃ pc, popC cs t = pc := ⟨_, rfl⟩
              rw [hpn, hpc, hsb] at QK
              clear hkm hk
              cases sb with
              | true =>
                obtain ⟨j, x, M', hj, hrd, hL, e1, e2, e3⟩ := pop_at HI.out.1.ql.q.ok hsb
                rw [hpn] at e1
                rw [hpc] at e2
                subst e1 e2
                obtain ⟨y, x2⟩ := x
                have hjm : j < m := by have := S1.out.2.2.2.2.1; omega
                have HJ : Hid (j < cs.length ∧ (cAt cs j).L = (y, x2) :: M' ∧ popQ cs t = cs.set j (takeC (cAt cs j)) ∧ anyR cs = true ∧ popN cs t = y ∧ popC cs t = (j : Int) ∧ (cAt cs j).rdy = true) := ⟨hj, hL, e3, hsb, hpn, hpc, hrd⟩
                have HJM : Hid (j < m) := hjm
                have k0 : (0 : Int) ≤ (j : Int) := by omega
                have k1 : (j : Int) < (m : Int) := by omega
                have k2 : ((j : Int)).toNat = j := by omega
                have d1 : decide ((0 : Int) ≤ (j : Int)) = true := decide_eq_true k0
                have d2 : decide ((j : Int) < (m : Int)) = true := decide_eq_true k1
                have d3 : decide (j < m) = true := decide_eq_true hjm
                clear hj hrd hL e3 hsb hpn hpc hjm
                have QK2 : Hid (Calls Try.prog 23 #[.pointer (some ⟨P, 0, none⟩)] wr fun e w' => e = .returned (.tuple #[.int .i64 y, .int .i64 (j : Int), .bool true]) ∧ QNI w P G cs t B (.slice (some ⟨gl, 0, none⟩) m cl) (.slice (some ⟨gb, 0, none⟩) m cb) (.slice (some ⟨gs, 0, none⟩) m cs') ms cs (some ⟨ab, off, none⟩) l2 p (.slice (some ⟨gt, 0, none⟩) m tc) (cs.map CL.tk) w') := QK.out
                clear QK
                go_wp2_with fail
                refine Calls.mono QK2.out ?_
                rintro e4 w4 ⟨rfl, q4⟩
                have H4 : Hid (QNI w P G cs t B (.slice (some ⟨gl, 0, none⟩) m cl) (.slice (some ⟨gb, 0, none⟩) m cb) (.slice (some ⟨gs, 0, none⟩) m cs') ms cs (some ⟨ab, off, none⟩) l2 p (.slice (some ⟨gt, 0, none⟩) m tc) (cs.map CL.tk) w4) := q4
                have QR : Hid _ := H4.out.ready m c1 S1.out.2.2.2.2.1 j HJM.out
                rw [HJ.out.2.2.2.2.2.2] at QR
                clear q4 QK2
                go_wp2_with fail
                refine Calls.mono QR.out ?_
                rintro e5 w5 ⟨rfl, q5⟩
                have H5 : Hid (QNI w P G cs t B (.slice (some ⟨gl, 0, none⟩) m cl) (.slice (some ⟨gb, 0, none⟩) m cb) (.slice (some ⟨gs, 0, none⟩) m cs') ms cs (some ⟨ab, off, none⟩) l2 p (.slice (some ⟨gt, 0, none⟩) m tc) (cs.map CL.tk) w5) := q5
                have QP : Hid _ := H5.out.pop
                rw [HJ.out.2.2.2.1, HJ.out.2.2.2.2.1, HJ.out.2.2.2.2.2.1] at QP
                clear q5 QR H4
                go_wp2_with fail
                refine Calls.mono QP.out ?_
                rintro e6 w6 ⟨rfl, q6, k6⟩
                have H6 : Hid (QNI w P G (popQ cs t) (popT cs t) B (.slice (some ⟨gl, 0, none⟩) m cl) (.slice (some ⟨gb, 0, none⟩) m cb) (.slice (some ⟨gs, 0, none⟩) m cs') ms cs (some ⟨ab, off, none⟩) l2 p (.slice (some ⟨gt, 0, none⟩) m tc) (cs.map CL.tk) w6) := q6
                have QD : Hid _ := H6.out.popped H5.out.ql.q.ok j (y, x2) M' HJ.out.1 HJ.out.2.1 (65535 * (i : Int)) S1.out.2.1 (by have := HLT.out; omega)
                rw [← HJ.out.2.2.1] at QD
                obtain ⟨mj, hmj⟩ : ∃ mj, ms[j]? = some mj := ⟨_, List.getElem?_eq_getElem (by rw [H6.out.ql.ag.len]; exact HJ.out.1)⟩
                have hag := H6.out.ql.ag.at' j mj hmj
                have hln := H6.out.ql.k.ln mj (List.mem_of_getElem? hmj)
                rw [hag.1, HJ.out.2.1] at hln
                obtain ⟨gm, mo, mc, hv, hc, hx2, hxx⟩ := hln.head
                clear hxx
                obtain ⟨ml, hml⟩ : ∃ ml, M'.length + 1 = ml := ⟨_, rfl⟩
                rw [hml] at hv hc
                have c0 : w6.cell? ⟨B, 0, none⟩ = some (.slice (some ⟨gl, 0, none⟩) m cl) := H6.out.ql.k.at'.cell 0
                have cv : w6.cell? ⟨gl, j, none⟩ = some (.slice (some ⟨gm, mo, none⟩) ml mc) := H6.out.ql.k.l.cell1 bmV_len hmj (by unfold bmV; rw [hv])
                have cx2 : w6.cell? ⟨gm, mo, none⟩ = some (.int .i64 x2) := hx2
                have s1 : decide ((0 : Int) < (ml : Int)) = true := decide_eq_true (by omega)
                have s2' : decide (0 < ml) = true := decide_eq_true (by omega)
                have s3 : (0 : Int) < (ml : Int) := by omega
                clear q6 k6 QP hmj hag hln hv hc hx2 hml
                go_upto_region 40 with fail
                clear c0 cv cx2 s1 s2' s3
                go_wp2_with fail
                refine Calls.mono QD.out ?_
                rintro e7 w7 ⟨rfl, ms6, q7, s7, v7⟩
                obtain ⟨l, hl⟩ : ∃ l, (cAt cs j).li = l := ⟨_, rfl⟩
                have HLI : Hid ((cAt (popQ cs t) j).li = l) := by show _ = _; rw [HJ.out.2.2.1, cAt_set_same HJ.out.1]; exact hl
                have hqo := H5.out.ql.q.ok.c HJ.out.1
                have hlo := hqo.li
                rw [hl] at hlo
                obtain ⟨m6, hm6⟩ : ∃ m6, ms6[j]? = some m6 := ⟨_, List.getElem?_eq_getElem (by rw [q7.ql.ag.len, HJ.out.2.2.1, List.length_set]; exact HJ.out.1)⟩
                obtain ⟨s2, hs2⟩ : ∃ s2, m6.s = s2 := ⟨_, rfl⟩
                have HS2 : Hid (ms6[j]? = some m6 ∧ m6.s = s2) := ⟨hm6, hs2⟩
                have H7 : Hid (QNI w P G (popQ cs t) (popT cs t) B (.slice (some ⟨gl, 0, none⟩) m cl) (.slice (some ⟨gb, 0, none⟩) m cb) (.slice (some ⟨gs, 0, none⟩) m cs') ms6 (popQ cs t) (some ⟨ab, off, none⟩) l2 p (.slice (some ⟨gt, 0, none⟩) m tc) (cs.map CL.tk) w7 ∧ Sv (65535 * ((i : Int) + 1)) ms6 ∧ Tz (popQ cs t) ∧ Iv kt (popQ cs t) ms6 ∧ (popQ cs t).length = m ∧ (0 ≤ kt ∧ kt ≤ 1000000)) := ⟨q7, s7.mono (by omega), by rw [HJ.out.2.2.1]; exact S1.out.2.2.1.take HJ.out.1, by rw [HJ.out.2.2.1]; exact S1.out.2.2.2.1.take HJ.out.1 HJ.out.2.1 v7, by rw [HJ.out.2.2.1, List.length_set]; exact S1.out.2.2.2.2.1, S1.out.2.2.2.2.2⟩
                have hrow := H7.out.1.row j (by rw [H7.out.2.2.2.2.1]; exact HJM.out)
                rw [HLI.out] at hrow
                have cr : w7.cell? ⟨ab, off + j * 5 + 3, none⟩ = some (.int .i64 l.ra) := hrow 3 _ rfl
                clear q7 s7 v7 QD hm6 hs2 H5 H6 hrow
                by_cases hra : 0 < l.ra
                · have r1 : decide ((0 : Int) < l.ra) = true := decide_eq_true hra
                  have hiv : kt < 1000000 → s2 ≤ l.bu + kt * l.ra := fun hk => by
                    have h1 := H7.out.2.2.2.1 hk j m6 HS2.out.1 (by rw [HLI.out]; exact hra)
                    rw [HLI.out, HS2.out.2] at h1
                    have h2 := (H7.out.1.ql.q.ok.c (show j < (popQ cs t).length by rw [H7.out.2.2.2.2.1]; exact HJM.out)).tk (by rw [HLI.out]; exact hra)
                    omega
                  have htk := hqo.tk (by rw [hl]; exact hra)
                  obtain ⟨z, hz⟩ : ∃ z, (cAt cs j).tk = z := ⟨_, rfl⟩
                  have hhd := hqo.hd
                  rw [HJ.out.2.1] at hhd
                  have hbu := hlo.bu hra
                  have hra2 := hlo.ra.2
                  rw [hz, hl] at htk
                  have wz : IntKind.i64.wrap (z - x2) = z - x2 := i64_s _ (by have h1 : 0 ≤ x2 ∧ x2 ≤ 65535 := hhd; omega) (by have h1 : 0 ≤ x2 ∧ x2 ≤ 65535 := hhd; omega)
                  have HTS : Hid ((cs.map CL.tk)[j]? = some z ∧ (popQ cs t).map CL.tk = (cs.map CL.tk).set j (z - x2)) := ⟨by rw [List.getElem?_map, cAt_get HJ.out.1, ← hz]; rfl, by rw [HJ.out.2.2.1, take_tks HJ.out.2.1 (by rw [hl]; exact hra), hz]⟩
                  have hkr : 0 ≤ kt * l.ra ∧ kt * l.ra ≤ 67108864000000 := by
                    have h1 := S1.out.2.2.2.2.2
                    constructor
                    · exact Int.mul_nonneg h1.1 (by omega)
                    · calc kt * l.ra ≤ 1000000 * 67108864 := Int.mul_le_mul h1.2 hra2 (by omega) (by omega)
                        _ = 67108864000000 := by decide
                  have wm1 : IntKind.i64.wrap (kt * l.ra) = kt * l.ra := i64_s _ (by omega) (by omega)
                  have wm2 : IntKind.i64.wrap (l.bu + kt * l.ra) = l.bu + kt * l.ra := i64_s _ (by omega) (by omega)
                  clear hra htk hz hhd hbu hra2 hl hqo hlo hkr
                  as_aux_lemma =>
                    go_upto_region 43 with fail
                    clear cr
                    refine MixH.start (fun A => PurAt A p (.slice (some ⟨gt, 0, none⟩) m tc)) (by kernel_rfl) ?_
                    obtain ⟨wX, hwA⟩ : ∃ W_, W_ = w7.drew := ⟨_, rfl⟩
                    have bdr : Below w7.heap.size w7 wX := by rw [hwA]; exact (Below.refl _ _).drew
                    have HX : Hid (QNI w P G (popQ cs t) (popT cs t) B (.slice (some ⟨gl, 0, none⟩) m cl) (.slice (some ⟨gb, 0, none⟩) m cb) (.slice (some ⟨gs, 0, none⟩) m cs') ms6 (popQ cs t) (some ⟨ab, off, none⟩) l2 p (.slice (some ⟨gt, 0, none⟩) m tc) (cs.map CL.tk) wX) := H7.out.1.below bdr
                    have hS : PurAt wX p (.slice (some ⟨gt, 0, none⟩) m tc) := HX.out.pk.at'
                    rw [← hwA]
                    clear hwA bdr
                    refine MixH.takes [true, true, true, false, true, true, true, true, false, true, false, false, true] 7 (by kernel_rfl) (by kernel_rfl) (by decide) (by kernel_rfl) hS (fun K hK => ?_)
                    simp only [Mix.pick]
                    repeat (go_big_quiet_step (fail))
                    refine wpQuiet_nil (hK _ ?_)
                    clear hK K
                    refine MixH.take 6 3 _ ((.slice (some ⟨gt, 0, none⟩) m tc)) rfl (by kernel_rfl) (by kernel_rfl) (by kernel_rfl) (by kernel_rfl) (yields_bkn (.tmp 180) rfl ⟨p, 0, none⟩ ((.slice (some ⟨gt, 0, none⟩) m tc)) rfl rfl (fun A hA => hA.cell)) hS (fun a' ha => ?_)
                    simp only [Act.put, List.setIfInBounds_toArray, List.set_cons_succ, List.set_cons_zero] at ha
                    subst ha
                    refine MixH.take 5 8 _ ((.slice (some ⟨gt, 0, none⟩) m tc)) rfl (by kernel_rfl) (by kernel_rfl) (by kernel_rfl) (by kernel_rfl) (yields_bkn (.tmp 185) rfl ⟨p, 0, none⟩ ((.slice (some ⟨gt, 0, none⟩) m tc)) rfl rfl (fun A hA => hA.cell)) hS (fun a' ha => ?_)
                    simp only [Act.put, List.setIfInBounds_toArray, List.set_cons_succ, List.set_cons_zero] at ha
                    subst ha
                    refine MixH.takes [false, false, false, false, false, false, false, false, false, false, true] 4 (by kernel_rfl) (by kernel_rfl) (by decide) (by kernel_rfl) hS (fun K hK => ?_)
                    simp only [Mix.pick]
                    repeat (go_big_quiet_step (fail))
                    refine wpQuiet_nil (hK _ ?_)
                    clear hK K
                    refine MixH.one [false, false, false, false, false, false, false, false, false, false, false, true] 3 11 _ rfl rfl (by kernel_rfl) (by kernel_rfl) (fun K hK => ?_)
                    simp only [Mix.pick]
                    have cT : wX.cell? ⟨gt, j, none⟩ = some (.int .i64 z) := HX.out.pk.t.cell1 inL_len HTS.out.1 rfl
                    go_wp2_with fail
                    clear cT
                    refine ⟨rfl, hK _ _ hS ?_⟩
                    clear hK K
                    refine MixH.takes [false, false, false, false, false, false, false, false, false, false, false, false, false, true, true] 1 (by kernel_rfl) (by kernel_rfl) (by decide) (by kernel_rfl) hS (fun K hK => ?_)
                    simp only [Mix.pick]
                    repeat (go_big_quiet_step (fail))
                    refine wpQuiet_nil (hK _ ?_)
                    clear hK K
                    refine MixH.one [false, false, false, false, false, false, false, false, false, false, false, false, false, false, false, true] 0 15 _ rfl rfl (by kernel_rfl) (by kernel_rfl) (fun K hK => ?_)
                    simp only [Mix.pick]
                    have cT : wX.cell? ⟨gt, j, none⟩ = some (.int .i64 z) := HX.out.pk.t.cell1 inL_len HTS.out.1 rfl
                    have zT := HX.out.pk.t.frozen j
                    have kk : Ch (fun q => q = gt) wX (wX.setCell ⟨gt, j, none⟩ (.int .i64 (z - x2))) := (Ch.refl (fun q => q = gt) wX).set ⟨gt, j, none⟩ _ rfl
                    have hpg : ¬ p = gt := fun e => by
                      have h1 := HX.out.pk.at'
                      rw [e] at h1
                      obtain ⟨_, _, c, hc⟩ := HX.out.pk.t.kind gt rfl
                      exact tk_ne h1 hc (by decide)
                    have H8 : Hid (QNI w P G (popQ cs t) (popT cs t) B (.slice (some ⟨gl, 0, none⟩) m cl) (.slice (some ⟨gb, 0, none⟩) m cb) (.slice (some ⟨gs, 0, none⟩) m cs') ms6 (popQ cs t) (some ⟨ab, off, none⟩) l2 p (.slice (some ⟨gt, 0, none⟩) m tc) (((popQ cs t)).map CL.tk) (wX.setCell ⟨gt, j, none⟩ (.int .i64 (z - x2))) ∧ Sv (65535 * ((i : Int) + 1)) ms6 ∧ Tz (popQ cs t) ∧ Iv kt (popQ cs t) ms6 ∧ ((popQ cs t)).length = m ∧ (0 ≤ kt ∧ kt ≤ 1000000)) := by
                      have h1 := HX.out.setT (ts' := (popQ cs t).map CL.tk) (kk.mono (fun q _ e => by have e' : q = gt := e; rw [e']; rfl)) ⟨HX.out.pk.lo, HX.out.pk.at'.ch kk hpg, by rw [HTS.out.2]; exact HX.out.pk.t.set1 inL_len (u := .int .i64 (z - x2)) rfl (List.getElem?_eq_some_iff.1 HTS.out.1).1⟩
                      exact ⟨h1.1, H7.out.2⟩
                    replace hS : PurAt (wX.setCell ⟨gt, j, none⟩ (.int .i64 (z - x2))) p (.slice (some ⟨gt, 0, none⟩) m tc) := hS.ch kk hpg
                    clear kk hpg
                    go_wp2_with fail
                    clear cT zT
                    refine ⟨rfl, hK _ _ hS ?_⟩
                    clear hK K
                    refine MixH.done (by kernel_rfl) ?_
                    clear hS
                    obtain ⟨w8, hw8⟩ : ∃ y, wX.setCell ⟨gt, j, none⟩ (.int .i64 (z - x2)) = y := ⟨_, rfl⟩
                    rw [hw8] at H8 ⊢
                    clear hw8 H7 HX
                    by_cases hkt : kt < 1000000
                    · have t1 : decide (kt < 1000000) = true := decide_eq_true hkt
                      have t2 : decide (l.bu + kt * l.ra < s2) = false := decide_eq_false (by have := hiv hkt; omega)
                      clear hkt hiv
                      as_aux_lemma =>
                        go_upto_region 44 with fail
                        refine MixH.start (fun A => A.rangeAt ab (off + j * 5) (liA l).toList ∧ BovAt A B (.slice (some ⟨gl, 0, none⟩) m cl) (.slice (some ⟨gb, 0, none⟩) m cb) (.slice (some ⟨gs, 0, none⟩) m cs') ∧ A.cell? ⟨gs, j, none⟩ = some (.int .i64 s2)) (by kernel_rfl) ?_
                        obtain ⟨wZ, hwA⟩ : ∃ W_, W_ = w8.drew := ⟨_, rfl⟩
                        have bdr : Below w8.heap.size w8 wZ := by rw [hwA]; exact (Below.refl _ _).drew
                        have HZ : Hid (QNI w P G (popQ cs t) (popT cs t) B (.slice (some ⟨gl, 0, none⟩) m cl) (.slice (some ⟨gb, 0, none⟩) m cb) (.slice (some ⟨gs, 0, none⟩) m cs') ms6 (popQ cs t) (some ⟨ab, off, none⟩) l2 p (.slice (some ⟨gt, 0, none⟩) m tc) (((popQ cs t)).map CL.tk) wZ ∧ Sv (65535 * ((i : Int) + 1)) ms6 ∧ Tz (popQ cs t) ∧ Iv kt (popQ cs t) ms6 ∧ ((popQ cs t)).length = m ∧ (0 ≤ kt ∧ kt ≤ 1000000)) := ⟨H8.out.1.below bdr, H8.out.2⟩
                        have hS : wZ.rangeAt ab (off + j * 5) (liA l).toList ∧ BovAt wZ B (.slice (some ⟨gl, 0, none⟩) m cl) (.slice (some ⟨gb, 0, none⟩) m cb) (.slice (some ⟨gs, 0, none⟩) m cs') ∧ wZ.cell? ⟨gs, j, none⟩ = some (.int .i64 s2) := ⟨by have h1 := HZ.out.1.row j (by rw [HZ.out.2.2.2.2.1]; exact HJM.out); rw [HLI.out] at h1; exact h1, HZ.out.1.ql.k.at', HZ.out.1.ql.k.s.cell1 bmS_len HS2.out.1 (by unfold bmS; rw [HS2.out.2])⟩
                        rw [← hwA]
                        clear hwA bdr
                        refine MixH.takes [true, true, true, true] 29 (by kernel_rfl) (by kernel_rfl) (by decide) (by kernel_rfl) hS (fun K hK => ?_)
                        simp only [Mix.pick]
                        repeat (go_big_quiet_step (fail))
                        refine wpQuiet_nil (hK _ ?_)
                        clear hK K
                        refine MixH.take 28 4 _ (.int .i64 l.ra) rfl (by kernel_rfl) (by kernel_rfl) (by kernel_rfl) (by kernel_rfl) (yields_int (.tmp 196) rfl ⟨ab, off + j * 5 + 3, none⟩ (.int .i64 l.ra) rfl rfl (fun A hA => hA.1 3 _ rfl)) hS (fun a' ha => ?_)
                        simp only [Act.put, List.setIfInBounds_toArray, List.set_cons_succ, List.set_cons_zero] at ha
                        subst ha
                        refine MixH.takes [false, false, false, false, false, true, true, true, true, true, true, true, true, true, false, true, false, false, true, true, true, true, false, true, true, true, true, true] 9 (by kernel_rfl) (by kernel_rfl) (by decide) (by kernel_rfl) hS (fun K hK => ?_)
                        simp only [Mix.pick]
                        repeat (go_big_quiet_step (fail))
                        refine wpQuiet_nil (hK _ ?_)
                        clear hK K
                        refine MixH.take 8 14 _ ((.slice (some ⟨gs, 0, none⟩) m cs')) rfl (by kernel_rfl) (by kernel_rfl) (by kernel_rfl) (by kernel_rfl) (yields_bkn (.tmp 206) rfl ⟨B, 2, none⟩ ((.slice (some ⟨gs, 0, none⟩) m cs')) rfl rfl (fun A hA => hA.2.1.cell 2)) hS (fun a' ha => ?_)
                        simp only [Act.put, List.setIfInBounds_toArray, List.set_cons_succ, List.set_cons_zero] at ha
                        subst ha
                        refine MixH.takes [false, false, false, false, false, false, false, false, false, false, false, false, false, false, false, false, true] 7 (by kernel_rfl) (by kernel_rfl) (by decide) (by kernel_rfl) hS (fun K hK => ?_)
                        simp only [Mix.pick]
                        repeat (go_big_quiet_step (fail))
                        refine wpQuiet_nil (hK _ ?_)
                        clear hK K
                        refine MixH.take 6 17 _ (.int .i64 s2) rfl (by kernel_rfl) (by kernel_rfl) (by kernel_rfl) (by kernel_rfl) (yields_int (.tmp 209) rfl ⟨gs, j, none⟩ (.int .i64 s2) rfl rfl (fun A hA => hA.2.2)) hS (fun a' ha => ?_)
                        simp only [Act.put, List.setIfInBounds_toArray, List.set_cons_succ, List.set_cons_zero] at ha
                        subst ha
                        refine MixH.take 5 22 _ (.int .i64 l.bu) rfl (by kernel_rfl) (by kernel_rfl) (by kernel_rfl) (by kernel_rfl) (yields_int (.tmp 214) rfl ⟨ab, off + j * 5 + 4, none⟩ (.int .i64 l.bu) rfl rfl (fun A hA => hA.1 4 _ rfl)) hS (fun a' ha => ?_)
                        simp only [Act.put, List.setIfInBounds_toArray, List.set_cons_succ, List.set_cons_zero] at ha
                        subst ha
                        refine MixH.take 4 28 _ (.int .i64 l.ra) rfl (by kernel_rfl) (by kernel_rfl) (by kernel_rfl) (by kernel_rfl) (yields_int (.tmp 220) rfl ⟨ab, off + j * 5 + 3, none⟩ (.int .i64 l.ra) rfl rfl (fun A hA => hA.1 3 _ rfl)) hS (fun a' ha => ?_)
                        simp only [Act.put, List.setIfInBounds_toArray, List.set_cons_succ, List.set_cons_zero] at ha
                        subst ha
                        refine MixH.takes [false, false, false, false, false, false, false, false, false, false, false, false, false, false, false, false, false, false, false, false, false, false, false, false, false, false, false, false, false, true, true, true, true] 0 (by kernel_rfl) (by kernel_rfl) (by decide) (by kernel_rfl) hS (fun K hK => ?_)
                        simp only [Mix.pick]
                        repeat (go_big_quiet_step (fail))
                        refine wpQuiet_nil (hK _ ?_)
                        clear hK K
                        refine MixH.done (by kernel_rfl) ?_
                        clear hS
                        go_wp2_with fail
                        go_roundw
                        case rel => exact ⟨i + 1, kt, _, _, _, by first | rfl | go_num, by first | rfl | go_num, by have := HLT.out; omega, by have h1 := HZ.out; rw [show (((i + 1 : Nat)) : Int) = (i : Int) + 1 by omega]; exact h1⟩
                        case measure => have := HLT.out; simp [intOf]; omega
                    · have t1 : decide (kt < 1000000) = false := decide_eq_false hkt
                      clear hkt hiv
                      as_aux_lemma =>
                        go_upto_region 44 with fail
                        refine MixH.start (fun A => A.rangeAt ab (off + j * 5) (liA l).toList ∧ BovAt A B (.slice (some ⟨gl, 0, none⟩) m cl) (.slice (some ⟨gb, 0, none⟩) m cb) (.slice (some ⟨gs, 0, none⟩) m cs') ∧ A.cell? ⟨gs, j, none⟩ = some (.int .i64 s2)) (by kernel_rfl) ?_
                        obtain ⟨wZ, hwA⟩ : ∃ W_, W_ = w8.drew := ⟨_, rfl⟩
                        have bdr : Below w8.heap.size w8 wZ := by rw [hwA]; exact (Below.refl _ _).drew
                        have HZ : Hid (QNI w P G (popQ cs t) (popT cs t) B (.slice (some ⟨gl, 0, none⟩) m cl) (.slice (some ⟨gb, 0, none⟩) m cb) (.slice (some ⟨gs, 0, none⟩) m cs') ms6 (popQ cs t) (some ⟨ab, off, none⟩) l2 p (.slice (some ⟨gt, 0, none⟩) m tc) (((popQ cs t)).map CL.tk) wZ ∧ Sv (65535 * ((i : Int) + 1)) ms6 ∧ Tz (popQ cs t) ∧ Iv kt (popQ cs t) ms6 ∧ ((popQ cs t)).length = m ∧ (0 ≤ kt ∧ kt ≤ 1000000)) := ⟨H8.out.1.below bdr, H8.out.2⟩
                        have hS : wZ.rangeAt ab (off + j * 5) (liA l).toList ∧ BovAt wZ B (.slice (some ⟨gl, 0, none⟩) m cl) (.slice (some ⟨gb, 0, none⟩) m cb) (.slice (some ⟨gs, 0, none⟩) m cs') ∧ wZ.cell? ⟨gs, j, none⟩ = some (.int .i64 s2) := ⟨by have h1 := HZ.out.1.row j (by rw [HZ.out.2.2.2.2.1]; exact HJM.out); rw [HLI.out] at h1; exact h1, HZ.out.1.ql.k.at', HZ.out.1.ql.k.s.cell1 bmS_len HS2.out.1 (by unfold bmS; rw [HS2.out.2])⟩
                        rw [← hwA]
                        clear hwA bdr
                        refine MixH.takes [true, true, true, true] 29 (by kernel_rfl) (by kernel_rfl) (by decide) (by kernel_rfl) hS (fun K hK => ?_)
                        simp only [Mix.pick]
                        repeat (go_big_quiet_step (fail))
                        refine wpQuiet_nil (hK _ ?_)
                        clear hK K
                        refine MixH.take 28 4 _ (.int .i64 l.ra) rfl (by kernel_rfl) (by kernel_rfl) (by kernel_rfl) (by kernel_rfl) (yields_int (.tmp 196) rfl ⟨ab, off + j * 5 + 3, none⟩ (.int .i64 l.ra) rfl rfl (fun A hA => hA.1 3 _ rfl)) hS (fun a' ha => ?_)
                        simp only [Act.put, List.setIfInBounds_toArray, List.set_cons_succ, List.set_cons_zero] at ha
                        subst ha
                        refine MixH.takes [false, false, false, false, false, true, true, true, true, true, true, true, true, true, false, true, false, false, true, true, true, true, false, true, true, true, true, true] 9 (by kernel_rfl) (by kernel_rfl) (by decide) (by kernel_rfl) hS (fun K hK => ?_)
                        simp only [Mix.pick]
                        repeat (go_big_quiet_step (fail))
                        refine wpQuiet_nil (hK _ ?_)
                        clear hK K
                        refine MixH.take 8 14 _ (undef) rfl (by kernel_rfl) (by kernel_rfl) (by kernel_rfl) (by kernel_rfl) (.inr ⟨rfl, rfl⟩) hS (fun a' ha => ?_)
                        simp only [Act.put, List.setIfInBounds_toArray, List.set_cons_succ, List.set_cons_zero] at ha
                        subst ha
                        refine MixH.takes [false, false, false, false, false, false, false, false, false, false, false, false, false, false, false, false, true] 7 (by kernel_rfl) (by kernel_rfl) (by decide) (by kernel_rfl) hS (fun K hK => ?_)
                        simp only [Mix.pick]
                        repeat (go_big_quiet_step (fail))
                        refine wpQuiet_nil (hK _ ?_)
                        clear hK K
                        refine MixH.take 6 17 _ (undef) rfl (by kernel_rfl) (by kernel_rfl) (by kernel_rfl) (by kernel_rfl) (.inr ⟨rfl, rfl⟩) hS (fun a' ha => ?_)
                        simp only [Act.put, List.setIfInBounds_toArray, List.set_cons_succ, List.set_cons_zero] at ha
                        subst ha
                        refine MixH.take 5 22 _ (undef) rfl (by kernel_rfl) (by kernel_rfl) (by kernel_rfl) (by kernel_rfl) (.inr ⟨rfl, rfl⟩) hS (fun a' ha => ?_)
                        simp only [Act.put, List.setIfInBounds_toArray, List.set_cons_succ, List.set_cons_zero] at ha
                        subst ha
                        refine MixH.take 4 28 _ (undef) rfl (by kernel_rfl) (by kernel_rfl) (by kernel_rfl) (by kernel_rfl) (.inr ⟨rfl, rfl⟩) hS (fun a' ha => ?_)
                        simp only [Act.put, List.setIfInBounds_toArray, List.set_cons_succ, List.set_cons_zero] at ha
                        subst ha
                        refine MixH.takes [false, false, false, false, false, false, false, false, false, false, false, false, false, false, false, false, false, false, false, false, false, false, false, false, false, false, false, false, false, true, true, true, true] 0 (by kernel_rfl) (by kernel_rfl) (by decide) (by kernel_rfl) hS (fun K hK => ?_)
                        simp only [Mix.pick]
                        repeat (go_big_quiet_step (fail))
                        refine wpQuiet_nil (hK _ ?_)
                        clear hK K
                        refine MixH.done (by kernel_rfl) ?_
                        clear hS
                        go_wp2_with fail
                        go_roundw
                        case rel => exact ⟨i + 1, kt, _, _, _, by first | rfl | go_num, by first | rfl | go_num, by have := HLT.out; omega, by have h1 := HZ.out; rw [show (((i + 1 : Nat)) : Int) = (i : Int) + 1 by omega]; exact h1⟩
                        case measure => have := HLT.out; simp [intOf]; omega
                · have r1 : decide ((0 : Int) < l.ra) = false := decide_eq_false hra
                  have H8 : Hid (QNI w P G (popQ cs t) (popT cs t) B (.slice (some ⟨gl, 0, none⟩) m cl) (.slice (some ⟨gb, 0, none⟩) m cb) (.slice (some ⟨gs, 0, none⟩) m cs') ms6 (popQ cs t) (some ⟨ab, off, none⟩) l2 p (.slice (some ⟨gt, 0, none⟩) m tc) (((popQ cs t)).map CL.tk) w7 ∧ Sv (65535 * ((i : Int) + 1)) ms6 ∧ Tz (popQ cs t) ∧ Iv kt (popQ cs t) ms6 ∧ ((popQ cs t)).length = m ∧ (0 ≤ kt ∧ kt ≤ 1000000)) := ⟨by have h1 := H7.out.1; rw [HJ.out.2.2.1, take_tks0 HJ.out.1 (by rw [hl]; exact hra), ← HJ.out.2.2.1]; exact h1, H7.out.2⟩
                  clear hra hl hqo hlo H7
                  as_aux_lemma =>
                    go_upto_region 44 with fail
                    refine MixH.start (fun A => A.rangeAt ab (off + j * 5) (liA l).toList ∧ BovAt A B (.slice (some ⟨gl, 0, none⟩) m cl) (.slice (some ⟨gb, 0, none⟩) m cb) (.slice (some ⟨gs, 0, none⟩) m cs') ∧ A.cell? ⟨gs, j, none⟩ = some (.int .i64 s2)) (by kernel_rfl) ?_
                    obtain ⟨wZ, hwA⟩ : ∃ W_, W_ = w7.drew := ⟨_, rfl⟩
                    have bdr : Below w7.heap.size w7 wZ := by rw [hwA]; exact (Below.refl _ _).drew
                    have HZ : Hid (QNI w P G (popQ cs t) (popT cs t) B (.slice (some ⟨gl, 0, none⟩) m cl) (.slice (some ⟨gb, 0, none⟩) m cb) (.slice (some ⟨gs, 0, none⟩) m cs') ms6 (popQ cs t) (some ⟨ab, off, none⟩) l2 p (.slice (some ⟨gt, 0, none⟩) m tc) (((popQ cs t)).map CL.tk) wZ ∧ Sv (65535 * ((i : Int) + 1)) ms6 ∧ Tz (popQ cs t) ∧ Iv kt (popQ cs t) ms6 ∧ ((popQ cs t)).length = m ∧ (0 ≤ kt ∧ kt ≤ 1000000)) := ⟨H8.out.1.below bdr, H8.out.2⟩
                    have hS : wZ.rangeAt ab (off + j * 5) (liA l).toList ∧ BovAt wZ B (.slice (some ⟨gl, 0, none⟩) m cl) (.slice (some ⟨gb, 0, none⟩) m cb) (.slice (some ⟨gs, 0, none⟩) m cs') ∧ wZ.cell? ⟨gs, j, none⟩ = some (.int .i64 s2) := ⟨by have h1 := HZ.out.1.row j (by rw [HZ.out.2.2.2.2.1]; exact HJM.out); rw [HLI.out] at h1; exact h1, HZ.out.1.ql.k.at', HZ.out.1.ql.k.s.cell1 bmS_len HS2.out.1 (by unfold bmS; rw [HS2.out.2])⟩
                    rw [← hwA]
                    clear hwA bdr
                    refine MixH.takes [true, true, true, true] 29 (by kernel_rfl) (by kernel_rfl) (by decide) (by kernel_rfl) hS (fun K hK => ?_)
                    simp only [Mix.pick]
                    repeat (go_big_quiet_step (fail))
                    refine wpQuiet_nil (hK _ ?_)
                    clear hK K
                    refine MixH.take 28 4 _ (.int .i64 l.ra) rfl (by kernel_rfl) (by kernel_rfl) (by kernel_rfl) (by kernel_rfl) (yields_int (.tmp 196) rfl ⟨ab, off + j * 5 + 3, none⟩ (.int .i64 l.ra) rfl rfl (fun A hA => hA.1 3 _ rfl)) hS (fun a' ha => ?_)
                    simp only [Act.put, List.setIfInBounds_toArray, List.set_cons_succ, List.set_cons_zero] at ha
                    subst ha
                    refine MixH.takes [false, false, false, false, false, true, true, true, true, true, true, true, true, true, false, true, false, false, true, true, true, true, false, true, true, true, true, true] 9 (by kernel_rfl) (by kernel_rfl) (by decide) (by kernel_rfl) hS (fun K hK => ?_)
                    simp only [Mix.pick]
                    repeat (go_big_quiet_step (fail))
                    refine wpQuiet_nil (hK _ ?_)
                    clear hK K
                    refine MixH.take 8 14 _ (undef) rfl (by kernel_rfl) (by kernel_rfl) (by kernel_rfl) (by kernel_rfl) (.inr ⟨rfl, rfl⟩) hS (fun a' ha => ?_)
                    simp only [Act.put, List.setIfInBounds_toArray, List.set_cons_succ, List.set_cons_zero] at ha
                    subst ha
                    refine MixH.takes [false, false, false, false, false, false, false, false, false, false, false, false, false, false, false, false, true] 7 (by kernel_rfl) (by kernel_rfl) (by decide) (by kernel_rfl) hS (fun K hK => ?_)
                    simp only [Mix.pick]
                    repeat (go_big_quiet_step (fail))
                    refine wpQuiet_nil (hK _ ?_)
                    clear hK K
                    refine MixH.take 6 17 _ (undef) rfl (by kernel_rfl) (by kernel_rfl) (by kernel_rfl) (by kernel_rfl) (.inr ⟨rfl, rfl⟩) hS (fun a' ha => ?_)
                    simp only [Act.put, List.setIfInBounds_toArray, List.set_cons_succ, List.set_cons_zero] at ha
                    subst ha
                    refine MixH.take 5 22 _ (undef) rfl (by kernel_rfl) (by kernel_rfl) (by kernel_rfl) (by kernel_rfl) (.inr ⟨rfl, rfl⟩) hS (fun a' ha => ?_)
                    simp only [Act.put, List.setIfInBounds_toArray, List.set_cons_succ, List.set_cons_zero] at ha
                    subst ha
                    refine MixH.take 4 28 _ (undef) rfl (by kernel_rfl) (by kernel_rfl) (by kernel_rfl) (by kernel_rfl) (.inr ⟨rfl, rfl⟩) hS (fun a' ha => ?_)
                    simp only [Act.put, List.setIfInBounds_toArray, List.set_cons_succ, List.set_cons_zero] at ha
                    subst ha
                    refine MixH.takes [false, false, false, false, false, false, false, false, false, false, false, false, false, false, false, false, false, false, false, false, false, false, false, false, false, false, false, false, false, true, true, true, true] 0 (by kernel_rfl) (by kernel_rfl) (by decide) (by kernel_rfl) hS (fun K hK => ?_)
                    simp only [Mix.pick]
                    repeat (go_big_quiet_step (fail))
                    refine wpQuiet_nil (hK _ ?_)
                    clear hK K
                    refine MixH.done (by kernel_rfl) ?_
                    clear hS
                    go_wp2_with fail
                    go_roundw
                    case rel => exact ⟨i + 1, kt, _, _, _, by first | rfl | go_num, by first | rfl | go_num, by have := HLT.out; omega, by have h1 := HZ.out; rw [show (((i + 1 : Nat)) : Int) = (i : Int) + 1 by omega]; exact h1⟩
                    case measure => have := HLT.out; simp [intOf]; omega
              | false =>
                have HJ : Hid (anyR cs = false ∧ popN cs t = pn ∧ popC cs t = pc ∧ popQ cs t = cs) := ⟨hsb, hpn, hpc, by unfold popQ; rw [hsb]; rfl⟩
                have QK2 : Hid (Calls Try.prog 23 #[.pointer (some ⟨P, 0, none⟩)] wr fun e w' => e = .returned (.tuple #[.int .i64 pn, .int .i64 pc, .bool false]) ∧ QNI w P G cs t B (.slice (some ⟨gl, 0, none⟩) m cl) (.slice (some ⟨gb, 0, none⟩) m cb) (.slice (some ⟨gs, 0, none⟩) m cs') ms cs (some ⟨ab, off, none⟩) l2 p (.slice (some ⟨gt, 0, none⟩) m tc) (cs.map CL.tk) w') := QK.out
                clear hsb hpn hpc QK
                go_wp2_with fail
                refine Calls.mono QK2.out ?_
                rintro e4 w4 ⟨rfl, q4⟩
                have H4 : Hid (QNI w P G cs t B (.slice (some ⟨gl, 0, none⟩) m cl) (.slice (some ⟨gb, 0, none⟩) m cb) (.slice (some ⟨gs, 0, none⟩) m cs') ms cs (some ⟨ab, off, none⟩) l2 p (.slice (some ⟨gt, 0, none⟩) m tc) (cs.map CL.tk) w4) := q4
                have QP : Hid _ := H4.out.pop
                rw [HJ.out.1, HJ.out.2.1, HJ.out.2.2.1, HJ.out.2.2.2] at QP
                clear q4 QK2
                go_wp2_with fail
                refine Calls.mono QP.out ?_
                rintro e5 w5 ⟨rfl, q5, k5⟩
                have H6 : Hid (QNI w P G cs (popT cs t) B (.slice (some ⟨gl, 0, none⟩) m cl) (.slice (some ⟨gb, 0, none⟩) m cb) (.slice (some ⟨gs, 0, none⟩) m cs') ms cs (some ⟨ab, off, none⟩) l2 p (.slice (some ⟨gt, 0, none⟩) m tc) ((cs).map CL.tk) w5 ∧ Sv (65535 * ((i : Int) + 1)) ms ∧ Tz cs ∧ Iv kt cs ms ∧ (cs).length = m ∧ (0 ≤ kt ∧ kt ≤ 1000000)) := ⟨q5, S1.out.2.1.mono (by omega), S1.out.2.2⟩
                clear q5 k5 QP H4
                go_wp2_with fail
                go_roundw
                case rel => exact ⟨i + 1, kt, _, _, _, by first | rfl | go_num, by first | rfl | go_num, by have := HLT.out; omega, by have h1 := H6.out; rw [show (((i + 1 : Nat)) : Int) = (i : Int) + 1 by omega]; exact h1⟩
                case measure => have := HLT.out; simp [intOf]; omega
    · have p1 : decide ((i : Int) < (len : Int) + 1) = false := decide_eq_false (by omega)
      clear hlt hi
      go_wp2_with fail
      go_ret
      exact ⟨rfl, ST.out.1.ql.q.bel⟩
end Go.Proofs.Ytnmcbmgkjalijaa
