/-
  QueueEven: the walk.
-/
import Derived.Test.YtclkcpdghpaboaaQEv
namespace Go.Proofs.Ytclkcpdghpaboaa
open Go.RowKit Go.ChangeShapes Go.WideShapes

theorem and_31 (n : Int) : bits .and .i64 n 31 = n % 32 := by
  have h127 : (BitVec.ofInt 64 31).toNat = 2 ^ 5 - 1 := by decide
  have key : (BitVec.ofInt 64 n &&& BitVec.ofInt 64 31).toNat = (n % ((2 ^ 64 : Nat) : Int)).toNat % 2 ^ 5 := by
    rw [BitVec.toNat_and, BitVec.toNat_ofInt, h127, Nat.and_two_pow_sub_one_eq_mod]
  show IntKind.i64.wrap ((BitVec.ofInt 64 n &&& BitVec.ofInt 64 31).toNat : Nat) = n % 32
  rw [key, IntKind.wrap_i64]
  omega
theorem zero_pr : ∃ i, Try.prog.info? 106 = some i ∧ i.zero.map Value.cells = some (prL (0, 0)).toArray ∧ i.size = 2 ∧ i.bytes ≤ 1000 := zero_of (by kernel_rfl)
set_option maxHeartbeats 25600000 in
set_option maxRecDepth 100000 in
theorem queueEven.walk (w : World) (a : Option Addr) (n cap : Nat) (ls : List LI) (hl : ls.length = n) (hs : ListG 5 liL LiW w a ls) (hn : n ≤ 1048576) (b : Option Addr) (len bcap : Nat) (ops : List OV) (hl2 : ops.length = len) (hs2 : ListG 5 ocL OpOk w b ops) (hn2 : len ≤ 1048576) (times : Int) (_ : (Lit.int .i64 times).wf = true) : Calls Try.prog 6 #[.slice a n cap, .slice b len bcap, .int .i64 times] w fun e w' => e = .returned (.bool true) ∧ Below w.heap.size w w' := by
  have HS : Hid (ListG 5 ocL OpOk w b ops ∧ ops.length = len ∧ len ≤ 1048576) := ⟨hs2, hl2, hn2⟩
  have HK : Hid (LsK w w a ls) := LsK.first hs
  have QO : Hid _ := queueOf_any w a n cap ls w hl HK.out (by omega) (Below.refl _ _)
  obtain ⟨l2, hl2e⟩ : ∃ l2, l2 = qls ls := ⟨_, rfl⟩
  have HNB : Hid (nwB l2 = true) := by show _ = _; rw [hl2e]; exact qls_ok ls
  rw [← hl2e] at QO
  have hlen := hn2
  clear hl hs hn hl2 hs2 hn2 hl2e HK
  go_enter Try.func6, Try.ntmps6
  go_wp2_with fail
  refine Calls.mono QO.out ?_
  rintro e1 w1 ⟨P, G, a1, c1, rfl, q1, b1, hP, hG, lk1⟩
  obtain ⟨m, hm⟩ : ∃ m, l2.length = m := ⟨_, rfl⟩
  have hm8 : 1 ≤ m ∧ m ≤ 8 := by have h1 := q1.len; rw [List.length_map, hm] at h1; exact h1
  rw [hm]
  obtain ⟨hlw0, ab, off, rfl, hr0⟩ := lk1.li.row 0 l2[0] (List.getElem?_eq_getElem (by omega))
  have HLW : Hid (∀ l ∈ l2, LiW l) := fun l hl => by
    obtain ⟨i, hi⟩ := List.getElem?_of_mem hl
    exact (lk1.li.row i l hi).1
  have HLQ : Hid (∀ l ∈ l2, 64 ≤ l.q ∧ l.q ≤ 65535) := fun l hl => by
    have h := HNB.out
    simp only [nwB, Bool.and_eq_true, decide_eq_true_eq, List.all_eq_true] at h
    exact (lmB_ok (h.2 l hl)).q
  have H1 : Hid (Q1 w P G (c0s l2) tz w1 ∧ LsK w w1 (some ⟨ab, off, none⟩) l2 ∧ l2.length = m) := ⟨⟨_, csOf_mk l2, q1, b1, mk_out hP hG⟩, lk1, hm⟩
  clear q1 b1 hP hG lk1 QO hm hlw0 hr0
  go_wp2_with fail
  refine Calls.mono (book_any m hm8.2 w1) ?_
  rintro e2 w2 ⟨B, lv, bv, sv, rfl, k2, b2⟩
  have hg0 : (List.replicate m m0)[0]? = some m0 := by rw [List.getElem?_replicate, if_pos (by omega)]
  obtain ⟨gl, cl, hlv, xa, xb, xc⟩ := k2.l.at bmV_len 0 m0 hg0
  clear xa xb xc
  obtain ⟨gb, cb, hbv, xa, xb, xc⟩ := k2.by'.at bmB_len 0 m0 hg0
  clear xa xb xc
  obtain ⟨gs, cs', hsv, xa, xb, xc⟩ := k2.s.at bmS_len 0 m0 hg0
  clear xa xb xc
  rw [List.length_replicate] at hlv hbv hsv
  subst hlv hbv hsv
  have H2 : Hid (QL w P G (c0s l2) tz B (.slice (some ⟨gl, 0, none⟩) m cl) (.slice (some ⟨gb, 0, none⟩) m cb) (.slice (some ⟨gs, 0, none⟩) m cs') (List.replicate m m0) (c0s l2) (some ⟨ab, off, none⟩) l2 w2 ∧ (c0s l2).length = m ∧ l2.length = m) := by
    have h1 := QL.first (H1.out.1.below b2) (by rw [H1.out.2.2]; exact k2.mono H1.out.1.bel.size) ((H1.out.2.1).keep H1.out.1.bel (H1.out.1.below b2).bel (Kp.ofBelow b2))
    rw [H1.out.2.2] at h1
    exact ⟨h1, by unfold c0s; rw [List.length_map, H1.out.2.2], H1.out.2.2⟩
  have QU : Hid _ := purse_any (some ⟨ab, off, none⟩) m c1 l2 w2 H2.out.1.ls.li H2.out.2.2 hm8.2
  clear k2 b2 H1 hg0
  go_wp2_with fail
  refine Calls.mono QU.out ?_
  rintro e3 w3 ⟨p, tv, rfl, p3, b3⟩
  obtain ⟨gt, tc, htv, hgt, xb, xc⟩ := p3.t.at inL_len 0 (l2[0]'(by have := H2.out.2.2; omega)).bu (by rw [List.getElem?_map, List.getElem?_eq_getElem (by have := H2.out.2.2; omega)]; rfl)
  rw [List.length_map, H2.out.2.2] at htv
  subst htv
  have H3 : Hid (QNI w P G (c0s l2) tz B (.slice (some ⟨gl, 0, none⟩) m cl) (.slice (some ⟨gb, 0, none⟩) m cb) (.slice (some ⟨gs, 0, none⟩) m cs') (List.replicate m m0) (c0s l2) (some ⟨ab, off, none⟩) l2 p (.slice (some ⟨gt, 0, none⟩) m tc) ((c0s l2).map CL.tk) w3 ∧ (c0s l2).length = m ∧ l2.length = m) := by
    have h1 := H2.out.1.k.by'.kind gb rfl
    have h2 := H2.out.1.k.s.kind gs rfl
    refine ⟨⟨H2.out.1.below b3, by rw [c0s_tk]; exact p3.mono H2.out.1.q.bel.size, fun q hq => ?_⟩, H2.out.2⟩
    simp only [Value.ownBlock, Option.some.injEq] at hq
    subst hq
    constructor <;> intro e <;> simp only [Value.ownBlock, Option.some.injEq] at e <;> omega
  clear p3 b3 hgt xb xc H2 QU
  go_upto_region 7 with (first | (refine wpList_alloc_opv rfl rfl ?_) | (refine wpList_store_opv (.tmp 10) (.tmp 33) rfl rfl w3.heap.size oz ⟨0, false, 0, 1, -4⟩ rfl rfl (opv_new w3 oz) rfl ?_; intro w4 h4 k4))
  have b4 : Below w3.heap.size w3 w4 := boxed_below k4 (fun q e => by have e' : q = w3.heap.size := e; omega)
  obtain ⟨O8, hO8⟩ : ∃ O, w3.heap.size = O := ⟨_, rfl⟩
  rw [hO8] at h4 ⊢
  have H4 : Hid (QNI w P G (c0s l2) tz B (.slice (some ⟨gl, 0, none⟩) m cl) (.slice (some ⟨gb, 0, none⟩) m cb) (.slice (some ⟨gs, 0, none⟩) m cs') (List.replicate m m0) (c0s l2) (some ⟨ab, off, none⟩) l2 p (.slice (some ⟨gt, 0, none⟩) m tc) ((c0s l2).map CL.tk) w4 ∧ (c0s l2).length = m ∧ OpvAt w4 O8 ⟨0, false, 0, 1, -4⟩ ∧ l2.length = m) := ⟨H3.out.1.below b4, H3.out.2.1, h4, H3.out.2.2⟩
  clear h4 k4 b4 hO8 H3
  simp only [Act.put, List.setIfInBounds_toArray, List.set_cons_succ, List.set_cons_zero]
  refine MixH.start (fun A => OpvAt A O8 ⟨0, false, 0, 1, -4⟩) (by kernel_rfl) ?_
  obtain ⟨wA, hwA⟩ : ∃ W_, W_ = w4.drew := ⟨_, rfl⟩
  have bdr : Below w4.heap.size w4 wA := by rw [hwA]; exact (Below.refl _ _).drew
  have HA : Hid (QNI w P G (c0s l2) tz B (.slice (some ⟨gl, 0, none⟩) m cl) (.slice (some ⟨gb, 0, none⟩) m cb) (.slice (some ⟨gs, 0, none⟩) m cs') (List.replicate m m0) (c0s l2) (some ⟨ab, off, none⟩) l2 p (.slice (some ⟨gt, 0, none⟩) m tc) ((c0s l2).map CL.tk) wA ∧ (c0s l2).length = m ∧ l2.length = m) := ⟨H4.out.1.below bdr, H4.out.2.1, H4.out.2.2.2⟩
  have hS : OpvAt wA O8 ⟨0, false, 0, 1, -4⟩ := H4.out.2.2.1.below bdr
  have QP : Hid _ := HA.out.1.push 0 1 (-4)
  rw [push_first2 HNB.out] at QP
  rw [← hwA]
  clear hwA bdr
  refine MixH.takes [true, true, false, true] 5 (by kernel_rfl) (by kernel_rfl) (by decide) (by kernel_rfl) hS (fun K hK => ?_)
  simp only [Mix.pick]
  repeat (go_big_quiet_step (fail))
  refine wpQuiet_nil (hK _ ?_)
  clear hK K
  refine MixH.take 4 2 _ (.agg (opC ⟨0, false, 0, 1, -4⟩)) rfl (by kernel_rfl) (by kernel_rfl) (by kernel_rfl) (by kernel_rfl) (yields_opv (.tmp 10) rfl O8 0 ⟨0, false, 0, 1, -4⟩ rfl rfl (fun A hA => OpvAt.all hA)) hS (fun a' ha => ?_)
  simp only [Act.put, List.setIfInBounds_toArray, List.set_cons_succ, List.set_cons_zero] at ha
  subst ha
  refine MixH.one [false, false, false, false, true] 3 4 _ rfl rfl (by kernel_rfl) (by kernel_rfl) (fun K hK => ?_)
  simp only [Mix.pick]
  go_wp2_with fail
  refine Calls.mono (QP.out) ?_
  rintro e5 w5 ⟨rfl, q5, k5⟩
  have H5 : Hid (QNI w P G (pushCs (c0s l2) 0 1 (-4)) tz B (.slice (some ⟨gl, 0, none⟩) m cl) (.slice (some ⟨gb, 0, none⟩) m cb) (.slice (some ⟨gs, 0, none⟩) m cs') (List.replicate m m0) (c0s l2) (some ⟨ab, off, none⟩) l2 p (.slice (some ⟨gt, 0, none⟩) m tc) ((c0s l2).map CL.tk) w5) := q5
  replace hS : OpvAt w5 O8 ⟨0, false, 0, 1, -4⟩ := k5.2 _ _ hS
  have QD : Hid _ := H5.out.pushed HA.out.1.ql.q.ok m c1 HA.out.2.1 0 0 1 (-4) 0 false (push_first2 HNB.out).symm
  clear q5 k5 QP
  go_wp2_with fail
  refine ⟨rfl, hK _ _ hS ?_⟩
  clear hK K
  refine MixH.one [false, false, false, false, false, true] 2 5 _ rfl rfl (by kernel_rfl) (by kernel_rfl) (fun K hK => ?_)
  simp only [Mix.pick]
  go_wp2_with fail
  refine Calls.mono (num_any 0 w5) ?_
  rintro e6 w6 ⟨rfl, rfl⟩
  skip
  go_wp2_with fail
  refine ⟨rfl, hK _ _ hS ?_⟩
  clear hK K
  refine MixH.one [false, false, false, false, false, false, true] 1 6 _ rfl rfl (by kernel_rfl) (by kernel_rfl) (fun K hK => ?_)
  simp only [Mix.pick]
  go_wp2_with fail
  refine Calls.mono (QD.out) ?_
  rintro e7 w7 ⟨rfl, ms7, q7, s7, k7⟩
  have H7 : Hid (QNI w P G (pushCs (c0s l2) 0 1 (-4)) tz B (.slice (some ⟨gl, 0, none⟩) m cl) (.slice (some ⟨gb, 0, none⟩) m cb) (.slice (some ⟨gs, 0, none⟩) m cs') ms7 (pushCs (c0s l2) 0 1 (-4)) (some ⟨ab, off, none⟩) l2 p (.slice (some ⟨gt, 0, none⟩) m tc) ((pushCs (c0s l2) 0 1 (-4)).map CL.tk) w7 ∧ Sv (65535 * 0) ms7 ∧ Tz (pushCs (c0s l2) 0 1 (-4)) ∧ H2 (pushCs (c0s l2) 0 1 (-4)) tz ∧ (pushCs (c0s l2) 0 1 (-4)).length = m) := ⟨by rw [push_tks]; exact q7, ((Sv.zero m).same s7).mono (by omega), (Tz.first HLW.out).push 0 1 (-4), (H2.first l2 (fun l hl => by have := HLQ.out l hl; omega)).li (push_len2 ..) (fun j => (push_lt (c0s l2) 0 1 (-4) j).1), by rw [push_len2]; exact HA.out.2.1⟩
  replace hS : OpvAt w7 O8 ⟨0, false, 0, 1, -4⟩ := k7.2 _ _ hS
  clear q7 s7 k7 QD H5
  go_wp2_with fail
  refine ⟨rfl, hK _ _ hS ?_⟩
  clear hK K
  refine MixH.takes [false, false, false, false, false, false, false, true] 0 (by kernel_rfl) (by kernel_rfl) (by decide) (by kernel_rfl) hS (fun K hK => ?_)
  simp only [Mix.pick]
  repeat (go_big_quiet_step (fail))
  refine wpQuiet_nil (hK _ ?_)
  clear hK K
  refine MixH.done (by kernel_rfl) ?_
  have HL2 : Hid (l2.length = m) := HA.out.2.2
  clear hS HA H4
  by_cases hbig : 100000 < len
  · have p1 : decide (100000 < (len : Int)) = true := decide_eq_true (by omega)
    have p2 : decide (100000 < len) = true := decide_eq_true hbig
    clear hbig
    go_wp2_with fail
    go_ret
    exact ⟨rfl, H7.out.1.ql.q.bel⟩
  have p1 : decide (100000 < (len : Int)) = false := decide_eq_false (by omega)
  have p2 : decide (100000 < len) = false := decide_eq_false hbig
  have HLEN : Hid (len ≤ 100000) := by show _ ≤ _; omega
  clear hbig hlen
  obtain ⟨N2, hN2⟩ : ∃ N, N = m * m := ⟨_, rfl⟩
  have hN64 : 1 ≤ N2 ∧ N2 ≤ 64 := by
    have h1 : m * m ≤ 8 * 8 := Nat.mul_le_mul hm8.2 hm8.2
    have h2 : 1 * 1 ≤ m * m := Nat.mul_le_mul hm8.1 hm8.1
    omega
  have wmm : IntKind.i64.wrap ((m : Int) * (m : Int)) = (N2 : Int) := by rw [show (m : Int) * (m : Int) = (N2 : Int) by rw [hN2]; simp]; exact i64_e _ (by omega) (by omega)
  have HN2 : Hid (N2 = m * m) := hN2
  clear hN2
  go_upto_region 12 with (first | (at_make; refine wpList_makeG prL_len (by decide) (0, 0) rfl (.tmp 49) (.tmp 49) 59 106 rfl Try.underlying59 zero_pr w7.heap.size _ _ N2 rfl rfl rfl rfl (by omega) (Nat.le_refl _) ?_; intro w8 gl8 b8))
  clear p1 p2 wmm
  obtain ⟨gp, hgp⟩ : ∃ g, g = w7.heap.size := ⟨_, rfl⟩
  obtain ⟨cs8, hcs8⟩ : ∃ c, c = pushCs (c0s l2) 0 1 (-4) := ⟨_, rfl⟩
  rw [← hcs8] at H7
  have H8 : Hid (QPI w P G cs8 tz B (.slice (some ⟨gl, 0, none⟩) m cl) (.slice (some ⟨gb, 0, none⟩) m cb) (.slice (some ⟨gs, 0, none⟩) m cs') ms7 cs8 (some ⟨ab, off, none⟩) l2 p (.slice (some ⟨gt, 0, none⟩) m tc) ((cs8).map CL.tk) gp N2 N2 (List.replicate N2 ((0 : Int), (0 : Int))) w8 ∧ EvP l2 m cs8 tz ms7 (List.replicate N2 ((0 : Int), (0 : Int))) ((0 : Int))) := by
    refine ⟨⟨H7.out.1.below b8, by rw [hgp]; exact gl8.mono H7.out.1.ql.q.bel.size⟩, H7.out.2.1, H7.out.2.2.1, H7.out.2.2.2.1, H7.out.2.2.2.2, ?_, (PB.zero N2).mono (by omega)⟩
    rw [HN2.out]
    exact PP.zero H7.out.1.ql.q.ok H7.out.2.2.2.1 H7.out.1.ql.li H7.out.2.2.2.2
  rw [← hgp]
  clear hgp hcs8 gl8 b8 H7
  obtain ⟨mt, hmt⟩ : ∃ mt, bits .and .i64 times 31 = mt := ⟨_, rfl⟩
  have hmt2 : 0 ≤ mt ∧ mt ≤ 31 := by rw [← hmt, and_31]; omega
  have wmt : IntKind.i64.wrap (1 + mt) = 1 + mt := i64_e _ (by omega) (by omega)
  go_wp2_with fail
  go_loopw [12] (fun nx wr => ∃ (n : Nat) (Kn : Int) (cs : List CL) (t : TN) (ms : List BM) (ps : List (Int × Int)), nx = .int .i64 (n : Nat) ∧ (n : Int) ≤ 1 + mt ∧ (0 ≤ Kn ∧ Kn ≤ 100000 * (n : Int)) ∧ Hid (QPI w P G cs t B (.slice (some ⟨gl, 0, none⟩) m cl) (.slice (some ⟨gb, 0, none⟩) m cb) (.slice (some ⟨gs, 0, none⟩) m cs') ms cs (some ⟨ab, off, none⟩) l2 p (.slice (some ⟨gt, 0, none⟩) m tc) ((cs).map CL.tk) gp N2 N2 ps wr ∧ EvP l2 m cs t ms ps (Kn))) (fun nx _ => 40 - (intOf nx).toNat)
  case atStart => exact ⟨0, 0, cs8, tz, ms7, _, rfl, by omega, by omega, H8.out⟩
  case round =>
    obtain ⟨n, Kn, cs, t, ms, ps, rfl, hn, hKn, HO⟩ := hrel
    clear H8
    by_cases hnn : (n : Int) < 1 + mt
    case neg =>
      have p1 : decide ((n : Int) < 1 + mt) = false := decide_eq_false hnn
      clear hnn hn hKn
      go_wp2_with fail
      go_ret
      exact ⟨rfl, HO.out.1.n.ql.q.bel⟩
    have p1 : decide ((n : Int) < 1 + mt) = true := decide_eq_true hnn
    have wn1 : IntKind.i64.wrap ((n : Int) + 1) = (n : Int) + 1 := i64_e _ (by omega) (by omega)
    have HNN : Hid ((n : Int) < 1 + mt ∧ mt ≤ 31 ∧ 0 ≤ Kn ∧ Kn ≤ 100000 * (n : Int)) := ⟨hnn, hmt2.2, hKn.1, hKn.2⟩
    clear hn hKn hnn
    go_wp2_with fail
    go_loopw [13] (fun ix wr => ∃ (i : Nat) (cs : List CL) (t : TN) (ms : List BM) (ps : List (Int × Int)), ix = .int .i64 (i : Nat) ∧ i ≤ len ∧ Hid (QPI w P G cs t B (.slice (some ⟨gl, 0, none⟩) m cl) (.slice (some ⟨gb, 0, none⟩) m cb) (.slice (some ⟨gs, 0, none⟩) m cs') ms cs (some ⟨ab, off, none⟩) l2 p (.slice (some ⟨gt, 0, none⟩) m tc) ((cs).map CL.tk) gp N2 N2 ps wr ∧ EvP l2 m cs t ms ps (Kn + (i : Int)))) (fun ix _ => len - (intOf ix).toNat)
    case atStart => exact ⟨0, cs, t, ms, ps, rfl, Nat.zero_le _, by have h1 := HO.out; rw [show Kn + ((0 : Nat) : Int) = Kn by omega]; exact h1⟩
    case round =>
      clear HO
      obtain ⟨i, cs, t, ms, ps, rfl, hi, HI⟩ := hrel
      by_cases hlt : i < len
      case neg =>
        have q1 : decide ((i : Int) < (len : Int)) = false := decide_eq_false (by omega)
        have q2 : decide (i < len) = false := decide_eq_false hlt
        have HE : Hid (i = len) := by show _ = _; omega
        clear hlt hi
        go_wp2_with fail
        go_roundw
        case rel => exact ⟨n + 1, Kn + (i : Int), cs, t, ms, ps, by first | rfl | go_num, by have := HNN.out; omega, by have := HNN.out; have := HE.out; have := HLEN.out; constructor <;> omega, HI.out⟩
        case measure => have := HNN.out; simp [intOf]; omega
      have k0 : (0 : Int) ≤ (i : Int) := by omega
      have k1 : (i : Int) < (len : Int) := by omega
      have k2 : ((i : Int)).toNat = i := by omega
      have d1 : decide ((i : Int) < (len : Int)) = true := decide_eq_true k1
      have d2 : decide (i < len) = true := decide_eq_true hlt
      have wi : IntKind.i64.wrap ((i : Int) + 1) = (i : Int) + 1 := by have := HLEN.out; exact i64_s _ (by omega) (by omega)
      have HLT : Hid (i < len ∧ len ≤ 100000 ∧ 0 ≤ Kn + (i : Int) ∧ Kn + (i : Int) + 1 ≤ 3300000) := by have h1 := HNN.out; have h2 := HLEN.out; refine ⟨hlt, h2, ?_, ?_⟩ <;> omega
      obtain ⟨⟨kd, tw, oc, os, oi⟩, _, hok, g, of2, rfl, hrg⟩ := op_at2 HS.out.1 HI.out.1.n.ql.q.bel i (by rw [HS.out.2.1]; exact hlt)
      have HRG : Hid (wr.rangeAt g (of2 + i * 5) (opC ⟨kd, tw, oc, os, oi⟩).toList) := hrg
      clear hrg hi hok hlt
      go_upto_region 19 with (first | (refine wpList_mid_opv (.tmp 66) rfl g (of2 + i * 5) ⟨kd, tw, oc, os, oi⟩ rfl HRG.out rfl ?_) | (refine wpList_alloc_opv rfl rfl ?_) | (refine wpList_store_opv (.tmp 14) (.tmp 67) rfl rfl wr.heap.size oz ⟨kd, tw, oc, os, oi⟩ rfl rfl (opv_new wr oz) rfl ?_; intro x1 h1 kk1))
      have bx : Below wr.heap.size wr x1 := boxed_below kk1 (fun q e => by have e' : q = wr.heap.size := e; omega)
      obtain ⟨O9, hO9⟩ : ∃ O, wr.heap.size = O := ⟨_, rfl⟩
      rw [hO9] at h1 ⊢
      have SB : Hid (QPI w P G cs t B (.slice (some ⟨gl, 0, none⟩) m cl) (.slice (some ⟨gb, 0, none⟩) m cb) (.slice (some ⟨gs, 0, none⟩) m cs') ms cs (some ⟨ab, off, none⟩) l2 p (.slice (some ⟨gt, 0, none⟩) m tc) ((cs).map CL.tk) gp N2 N2 ps x1 ∧ EvP l2 m cs t ms ps (Kn + (i : Int))) := ⟨HI.out.1.below bx, HI.out.2⟩
      have SO : Hid (OpvAt x1 O9 ⟨kd, tw, oc, os, oi⟩) := h1
      clear h1 kk1 bx hO9 HRG HI k0 k1 k2 d1 d2
      simp only [Act.put, List.setIfInBounds_toArray, List.set_cons_succ, List.set_cons_zero]
      have c0 : x1.cell? ⟨O9, 0, none⟩ = some (.int .i64 kd) := SO.out.cell 0
      by_cases h1 : kd = 1
      · have q1 : (kd == 1) = true := by simpa using h1
        clear h1
        as_aux_lemma =>
          go_upto_region 21 with fail
          clear c0
          refine MixH.start (fun A => OpvAt A O9 ⟨kd, tw, oc, os, oi⟩) (by kernel_rfl) ?_
          obtain ⟨wA, hwA⟩ : ∃ W_, W_ = x1.drew := ⟨_, rfl⟩
          have bdr : Below x1.heap.size x1 wA := by rw [hwA]; exact (Below.refl _ _).drew
          have SA : Hid (QPI w P G cs t B (.slice (some ⟨gl, 0, none⟩) m cl) (.slice (some ⟨gb, 0, none⟩) m cb) (.slice (some ⟨gs, 0, none⟩) m cs') ms cs (some ⟨ab, off, none⟩) l2 p (.slice (some ⟨gt, 0, none⟩) m tc) ((cs).map CL.tk) gp N2 N2 ps wA ∧ EvP l2 m cs t ms ps (Kn + (i : Int))) := ⟨SB.out.1.below bdr, SB.out.2⟩
          have hS : OpvAt wA O9 ⟨kd, tw, oc, os, oi⟩ := SO.out.below bdr
          obtain ⟨pe, hpe⟩ : ∃ pe, pushE cs oc os = pe := ⟨_, rfl⟩
          have QP : Hid _ := SA.out.1.push oc os oi
          rw [hpe] at QP
          have HPE : Hid (pe = pushE cs oc os) := hpe.symm
          clear hpe
          rw [← hwA]
          clear hwA bdr
          refine MixH.takes [true, true, false, true, true, false, true, false, true] 7 (by kernel_rfl) (by kernel_rfl) (by decide) (by kernel_rfl) hS (fun K hK => ?_)
          simp only [Mix.pick]
          repeat (go_big_quiet_step (fail))
          refine wpQuiet_nil (hK _ ?_)
          clear hK K
          refine MixH.take 6 2 _ (.agg (opC ⟨kd, tw, oc, os, oi⟩)) rfl (by kernel_rfl) (by kernel_rfl) (by kernel_rfl) (by kernel_rfl) (yields_opv (.tmp 14) rfl O9 0 ⟨kd, tw, oc, os, oi⟩ rfl rfl (fun A hA => OpvAt.all hA)) hS (fun a' ha => ?_)
          simp only [Act.put, List.setIfInBounds_toArray, List.set_cons_succ, List.set_cons_zero] at ha
          subst ha
          refine MixH.take 5 5 _ (.int .i64 oc) rfl (by kernel_rfl) (by kernel_rfl) (by kernel_rfl) (by kernel_rfl) (yields_int (.tmp 76) rfl ⟨O9, 2, none⟩ (.int .i64 oc) rfl rfl (fun A hA => OpvAt.cell hA 2)) hS (fun a' ha => ?_)
          simp only [Act.put, List.setIfInBounds_toArray, List.set_cons_succ, List.set_cons_zero] at ha
          subst ha
          refine MixH.take 4 7 _ (.int .i64 os) rfl (by kernel_rfl) (by kernel_rfl) (by kernel_rfl) (by kernel_rfl) (yields_int (.tmp 78) rfl ⟨O9, 3, none⟩ (.int .i64 os) rfl rfl (fun A hA => OpvAt.cell hA 3)) hS (fun a' ha => ?_)
          simp only [Act.put, List.setIfInBounds_toArray, List.set_cons_succ, List.set_cons_zero] at ha
          subst ha
          refine MixH.take 3 9 _ (.int .i64 oi) rfl (by kernel_rfl) (by kernel_rfl) (by kernel_rfl) (by kernel_rfl) (yields_int (.tmp 80) rfl ⟨O9, 4, none⟩ (.int .i64 oi) rfl rfl (fun A hA => OpvAt.cell hA 4)) hS (fun a' ha => ?_)
          simp only [Act.put, List.setIfInBounds_toArray, List.set_cons_succ, List.set_cons_zero] at ha
          subst ha
          refine MixH.one [false, false, false, false, false, false, false, false, false, false, true] 2 10 _ rfl rfl (by kernel_rfl) (by kernel_rfl) (fun K hK => ?_)
          simp only [Mix.pick]
          go_wp2_with fail
          refine Calls.mono (QP.out) ?_
          rintro e4 w4 ⟨rfl, q4, k4⟩
          have H4 : Hid (QPI w P G (pushCs cs oc os oi) t B (.slice (some ⟨gl, 0, none⟩) m cl) (.slice (some ⟨gb, 0, none⟩) m cb) (.slice (some ⟨gs, 0, none⟩) m cs') ms cs (some ⟨ab, off, none⟩) l2 p (.slice (some ⟨gt, 0, none⟩) m tc) (cs.map CL.tk) gp N2 N2 ps w4) := q4
          replace hS : OpvAt w4 O9 ⟨kd, tw, oc, os, oi⟩ := k4.2 _ _ hS
          have QD : Hid _ := H4.out.pushed SA.out.1.n.ql.q.ok m c1 SA.out.2.len kd oc os oi pe tw HPE.out
          clear q4 k4 QP
          go_wp2_with fail
          refine ⟨rfl, hK _ _ hS ?_⟩
          clear hK K
          refine MixH.one [false, false, false, false, false, false, false, false, false, false, false, true] 1 11 _ rfl rfl (by kernel_rfl) (by kernel_rfl) (fun K hK => ?_)
          simp only [Mix.pick]
          go_wp2_with fail
          refine Calls.mono (num_any pe w4) ?_
          rintro e5 w5 ⟨rfl, rfl⟩
          skip
          go_wp2_with fail
          refine ⟨rfl, hK _ _ hS ?_⟩
          clear hK K
          refine MixH.one [false, false, false, false, false, false, false, false, false, false, false, false, true] 0 12 _ rfl rfl (by kernel_rfl) (by kernel_rfl) (fun K hK => ?_)
          simp only [Mix.pick]
          go_wp2_with fail
          refine Calls.mono (QD.out) ?_
          rintro e6 w6 ⟨rfl, ms6, q6, s6, k6⟩
          have H6 : Hid (QPI w P G (pushCs cs oc os oi) t B (.slice (some ⟨gl, 0, none⟩) m cl) (.slice (some ⟨gb, 0, none⟩) m cb) (.slice (some ⟨gs, 0, none⟩) m cs') ms6 (pushCs cs oc os oi) (some ⟨ab, off, none⟩) l2 p (.slice (some ⟨gt, 0, none⟩) m tc) (((pushCs cs oc os oi)).map CL.tk) gp N2 N2 ps w6 ∧ EvP l2 m (pushCs cs oc os oi) t ms6 ps (Kn + (i : Int) + 1)) := ⟨by rw [push_tks]; exact q6, (SA.out.2.push s6 oc os oi).mono (by omega)⟩
          replace hS : OpvAt w6 O9 ⟨kd, tw, oc, os, oi⟩ := k6.2 _ _ hS
          clear q6 s6 k6 QD H4
          go_wp2_with fail
          refine ⟨rfl, hK _ _ hS ?_⟩
          clear hK K
          refine MixH.done (by kernel_rfl) ?_
          clear hS SA SB SO
          go_wp2_with fail
          go_roundw
          case rel => exact ⟨i + 1, _, _, _, _, by first | rfl | go_num, by have := HLT.out; omega, by have h1 := H6.out; rw [show (((i + 1 : Nat)) : Int) = (i : Int) + 1 by omega, ← Int.add_assoc]; exact h1⟩
          case measure => have := HLT.out; simp [intOf]; omega
      · have q1 : (kd == 1) = false := by simpa using h1
        by_cases h4 : kd = 4
        · have q4 : (kd == 4) = true := by simpa using h4
          clear h1 h4
          as_aux_lemma =>
            clear SO
            go_wp2_with fail
            refine Calls.mono SB.out.1.qtick ?_
            rintro e5 w5 ⟨rfl, q5⟩
            have H5 : Hid (QPI w P G (cs.map fillC) t B (.slice (some ⟨gl, 0, none⟩) m cl) (.slice (some ⟨gb, 0, none⟩) m cb) (.slice (some ⟨gs, 0, none⟩) m cs') ms (cs.map fillC) (some ⟨ab, off, none⟩) l2 p (.slice (some ⟨gt, 0, none⟩) m tc) (cs.map CL.tk) gp N2 N2 ps w5) := q5
            have QV : Hid _ := H5.out.ptick SB.out.1.n.ql.q.ok SB.out.2.tz m c1 SB.out.2.len
            clear q5 c0
            go_wp2_with fail
            refine Calls.mono QV.out ?_
            rintro e6 w6 ⟨rfl, q6⟩
            have H6 : Hid (QPI w P G (cs.map fillC) t B (.slice (some ⟨gl, 0, none⟩) m cl) (.slice (some ⟨gb, 0, none⟩) m cb) (.slice (some ⟨gs, 0, none⟩) m cs') ms (cs.map fillC) (some ⟨ab, off, none⟩) l2 p (.slice (some ⟨gt, 0, none⟩) m tc) (((cs.map fillC)).map CL.tk) gp N2 N2 ps w6 ∧ EvP l2 m (cs.map fillC) t ms ps (Kn + (i : Int) + 1)) := ⟨q6, SB.out.2.fill.mono (by omega)⟩
            clear q6 QV H5 SB
            go_wp2_with fail
            go_roundw
            case rel => exact ⟨i + 1, _, _, _, _, by first | rfl | go_num, by have := HLT.out; omega, by have h1 := H6.out; rw [show (((i + 1 : Nat)) : Int) = (i : Int) + 1 by omega, ← Int.add_assoc]; exact h1⟩
            case measure => have := HLT.out; simp [intOf]; omega
        · have q4 : (kd == 4) = false := by simpa using h4
          by_cases h2 : kd = 2
          · have q2 : (kd == 2) = true := by simpa using h2
            clear h1 h2 h4 SO
            as_aux_lemma =>
              go_upto_region 26 with fail
              clear c0
              go_wp2_with fail
              refine Calls.mono (SB.out.1.all m c1 SB.out.2.len hm8.2) ?_
              rintro e2 w2 ⟨xa, xc, rfl, gx, q2_, kb2⟩
              have H2 : Hid (QPI w P G cs t B (.slice (some ⟨gl, 0, none⟩) m cl) (.slice (some ⟨gb, 0, none⟩) m cb) (.slice (some ⟨gs, 0, none⟩) m cs') ms cs (some ⟨ab, off, none⟩) l2 p (.slice (some ⟨gt, 0, none⟩) m tc) (cs.map CL.tk) gp N2 N2 ps w2 ∧ GL 1 blL 4 w2 x1.heap.size (.slice xa m xc) (rdL cs m)) := ⟨q2_, gx⟩
              clear gx q2_ kb2
              obtain ⟨pn, hpn⟩ : ∃ pn, popN cs t = pn := ⟨_, rfl⟩
              obtain ⟨pc, hpc⟩ : ∃ pc, popC cs t = pc := ⟨_, rfl⟩
              have QP : Hid _ := H2.out.1.pop
              rw [hpn, hpc] at QP
              cases hsb : anyR cs with
              | false =>
                rw [hsb] at QP
                have HJ : Hid (popQ cs t = cs ∧ popT cs t = t) := ⟨by unfold popQ; rw [hsb]; rfl, by unfold popT; rw [hsb]; rfl⟩
                rw [HJ.out.1, HJ.out.2] at QP
                clear hsb hpn hpc
                go_wp2_with fail
                refine Calls.mono QP.out ?_
                rintro e4 w4 ⟨rfl, q4, k4⟩
                have H6 : Hid (QPI w P G cs t B (.slice (some ⟨gl, 0, none⟩) m cl) (.slice (some ⟨gb, 0, none⟩) m cb) (.slice (some ⟨gs, 0, none⟩) m cs') ms cs (some ⟨ab, off, none⟩) l2 p (.slice (some ⟨gt, 0, none⟩) m tc) ((cs).map CL.tk) gp N2 N2 ps w4 ∧ EvP l2 m cs t ms ps (Kn + (i : Int) + 1)) := ⟨q4, SB.out.2.mono (by omega)⟩
                clear q4 k4 QP H2 SB
                go_wp2_with fail
                go_roundw
                case rel => exact ⟨i + 1, _, _, _, _, by first | rfl | go_num, by have := HLT.out; omega, by have h1 := H6.out; rw [show (((i + 1 : Nat)) : Int) = (i : Int) + 1 by omega, ← Int.add_assoc]; exact h1⟩
                case measure => have := HLT.out; simp [intOf]; omega
              | true =>
                rw [hsb] at QP
                obtain ⟨j, x, M', hj, hrd, hL, e1, e2, e3⟩ := pop_at H2.out.1.n.ql.q.ok hsb
                rw [hpn] at e1
                rw [hpc] at e2
                subst e1 e2
                obtain ⟨y, x2⟩ := x
                have hjm : j < m := by have := SB.out.2.len; omega
                have HJ : Hid (j < cs.length ∧ (cAt cs j).L = (y, x2) :: M' ∧ popQ cs t = cs.set j (takeC (cAt cs j)) ∧ anyR cs = true ∧ popC cs t = (j : Int) ∧ QOk cs t ∧ cs.map CL.li = l2) := ⟨hj, hL, e3, hsb, hpc, H2.out.1.n.ql.q.ok, H2.out.1.n.ql.li⟩
                have HJM : Hid (j < m) := hjm
                have hhd := (H2.out.1.n.ql.q.ok.c hj).hd
                rw [hL] at hhd
                have HX2 : Hid (0 ≤ x2 ∧ x2 ≤ 65535) := hhd
                have k0 : (0 : Int) ≤ (j : Int) := by omega
                have k1 : (j : Int) < (m : Int) := by omega
                have k2 : ((j : Int)).toNat = j := by omega
                have d0 : decide ((j : Int) ≥ 0) = true := decide_eq_true k0
                have d1 : decide ((0 : Int) ≤ (j : Int)) = true := decide_eq_true k0
                have d2 : decide ((j : Int) < (m : Int)) = true := decide_eq_true k1
                have d3 : decide (j < m) = true := decide_eq_true hjm
                clear hj hrd hL e3 hsb hpn hpc hjm hhd
                go_wp2_with fail
                refine Calls.mono QP.out ?_
                rintro e4 w4 ⟨rfl, q4, kb4⟩
                have H4 : Hid (QPI w P G (popQ cs t) (popT cs t) B (.slice (some ⟨gl, 0, none⟩) m cl) (.slice (some ⟨gb, 0, none⟩) m cb) (.slice (some ⟨gs, 0, none⟩) m cs') ms cs (some ⟨ab, off, none⟩) l2 p (.slice (some ⟨gt, 0, none⟩) m tc) (cs.map CL.tk) gp N2 N2 ps w4 ∧ GL 1 blL 4 w4 x1.heap.size (.slice xa m xc) (rdL cs m)) := ⟨q4, kb4.gl H2.out.2⟩
                clear q4 kb4 QP H2
                obtain ⟨mj, hmj⟩ : ∃ mj, ms[j]? = some mj := ⟨_, List.getElem?_eq_getElem (by rw [H4.out.1.n.ql.ag.len]; exact HJ.out.1)⟩
                obtain ⟨sb, hsb⟩ : ∃ s, mj.s = s := ⟨_, rfl⟩
                have HMJ : Hid (ms[j]? = some mj ∧ mj.s = sb) := ⟨hmj, hsb⟩
                have cB : w4.cell? ⟨B, 2, none⟩ = some (.slice (some ⟨gs, 0, none⟩) m cs') := H4.out.1.n.ql.k.at'.cell 2
                have cS : w4.cell? ⟨gs, j, none⟩ = some (.int .i64 sb) := H4.out.1.n.ql.k.s.cell1 bmS_len hmj (by unfold bmS; rw [hsb])
                have hsb2 := SB.out.2.sv mj (List.mem_of_getElem? hmj)
                rw [hsb] at hsb2
                have HSB : Hid (0 ≤ sb ∧ sb ≤ 65535 * (Kn + (i : Int))) := hsb2
                have QD : Hid _ := H4.out.1.popped HJ.out.2.2.2.2.2.1 j (y, x2) M' HJ.out.1 HJ.out.2.1 (65535 * (Kn + (i : Int))) SB.out.2.sv (by have := HLT.out; omega)
                rw [← HJ.out.2.2.1] at QD
                clear hmj hsb hsb2
                go_upto_region 32 with fail
                clear cB cS
                go_wp2_with fail
                refine Calls.mono QD.out ?_
                rintro e6 w6 ⟨rfl, ms6, q6, s6, v6, kb6⟩
                obtain ⟨l, hl⟩ : ∃ l, (cAt cs j).li = l := ⟨_, rfl⟩
                have HLI : Hid ((cAt cs j).li = l ∧ (cAt (popQ cs t) j).li = l) := ⟨hl, by rw [HJ.out.2.2.1, cAt_set_same HJ.out.1]; exact hl⟩
                have H6 : Hid (QPI w P G (popQ cs t) (popT cs t) B (.slice (some ⟨gl, 0, none⟩) m cl) (.slice (some ⟨gb, 0, none⟩) m cb) (.slice (some ⟨gs, 0, none⟩) m cs') ms6 (popQ cs t) (some ⟨ab, off, none⟩) l2 p (.slice (some ⟨gt, 0, none⟩) m tc) (cs.map CL.tk) gp N2 N2 ps w6 ∧ GL 1 blL 4 w6 x1.heap.size (.slice xa m xc) (rdL cs m)) := ⟨q6, kb6.gl H4.out.2⟩
                have HEV : Hid (EvP l2 m (popQ cs t) (popT cs t) ms6 (evL (rdL cs m) (rdL (popQ cs t) m) m j x2 ps) (Kn + (i : Int) + 1)) := SB.out.2.pop HJ.out.2.2.2.2.2.1 HJ.out.2.2.2.1 HJ.out.2.2.2.2.2.2 HJ.out.2.2.2.2.1 HJ.out.2.1 s6 HLT.out.2.2.1
                have HBD : Hid _ := SB.out.2.bound HJ.out.2.2.2.2.2.1 HJ.out.2.2.2.1 HJ.out.2.2.2.2.2.2 HJ.out.2.2.2.2.1 HJ.out.2.1 ⟨HLT.out.2.2.1, by have := HLT.out; omega⟩ HLQ.out
                obtain ⟨m6, hm6⟩ : ∃ m6, ms6[j]? = some m6 := ⟨_, List.getElem?_eq_getElem (by rw [q6.n.ql.ag.len, HJ.out.2.2.1, List.length_set]; exact HJ.out.1)⟩
                have hs6 : m6.s = sb + x2 := by
                  obtain ⟨mm, hmm, he⟩ := v6 j m6 hm6
                  rw [HMJ.out.1, Option.some.injEq] at hmm
                  subst hmm
                  rw [HMJ.out.2, if_pos rfl] at he
                  exact he
                have cB : w6.cell? ⟨B, 2, none⟩ = some (.slice (some ⟨gs, 0, none⟩) m cs') := H6.out.1.n.ql.k.at'.cell 2
                have cS : w6.cell? ⟨gs, j, none⟩ = some (.int .i64 (sb + x2)) := H6.out.1.n.ql.k.s.cell1 bmS_len hm6 (by unfold bmS; rw [hs6])
                have wsz : IntKind.i64.wrap (sb + x2 - sb) = x2 := by rw [show sb + x2 - sb = x2 by omega]; have := HX2.out; exact i64_e _ (by omega) (by omega)
                have hrow := H6.out.1.n.row j (by have h1 := HEV.out.len; rw [h1]; exact HJM.out)
                rw [HLI.out.2] at hrow
                have cr : w6.cell? ⟨ab, off + j * 5 + 3, none⟩ = some (.int .i64 l.ra) := hrow 3 _ rfl
                have hqo := HJ.out.2.2.2.2.2.1.c HJ.out.1
                have hlo := hqo.li
                rw [hl] at hlo
                clear q6 s6 v6 kb6 QD hm6 hs6 H4 hrow
                go_upto_region 35 with fail
                clear cB cS
                by_cases hra : 0 < l.ra
                · have r1 : decide ((0 : Int) < l.ra) = true := decide_eq_true hra
                  have htk := hqo.tk (by rw [hl]; exact hra)
                  obtain ⟨z, hz⟩ : ∃ z, (cAt cs j).tk = z := ⟨_, rfl⟩
                  have hbu := hlo.bu hra
                  rw [hz, hl] at htk
                  have wz : IntKind.i64.wrap (z - x2) = z - x2 := by have := HX2.out; exact i64_e _ (by omega) (by omega)
                  have HTS : Hid ((cs.map CL.tk)[j]? = some z ∧ (popQ cs t).map CL.tk = (cs.map CL.tk).set j (z - x2)) := ⟨by rw [List.getElem?_map, cAt_get HJ.out.1, ← hz]; rfl, by rw [HJ.out.2.2.1, take_tks HJ.out.2.1 (by rw [hl]; exact hra), hz]⟩
                  clear hra htk hz hbu hl hqo hlo
                  as_aux_lemma =>
                    go_upto_region 36 with fail
                    clear cr
                    refine MixH.start (fun A => PurAt A p (.slice (some ⟨gt, 0, none⟩) m tc)) (by kernel_rfl) ?_
                    obtain ⟨wX, hwA⟩ : ∃ W_, W_ = w6.drew := ⟨_, rfl⟩
                    have bdr : Below w6.heap.size w6 wX := by rw [hwA]; exact (Below.refl _ _).drew
                    have HX : Hid (QPI w P G (popQ cs t) (popT cs t) B (.slice (some ⟨gl, 0, none⟩) m cl) (.slice (some ⟨gb, 0, none⟩) m cb) (.slice (some ⟨gs, 0, none⟩) m cs') ms6 (popQ cs t) (some ⟨ab, off, none⟩) l2 p (.slice (some ⟨gt, 0, none⟩) m tc) (cs.map CL.tk) gp N2 N2 ps wX ∧ GL 1 blL 4 wX x1.heap.size (.slice xa m xc) (rdL cs m)) := ⟨H6.out.1.below bdr, H6.out.2.below bdr⟩
                    have hS : PurAt wX p (.slice (some ⟨gt, 0, none⟩) m tc) := HX.out.1.n.pk.at'
                    rw [← hwA]
                    clear hwA bdr
                    refine MixH.takes [true, true, true, false, true, true, true, true, false, true, false, false, true] 7 (by kernel_rfl) (by kernel_rfl) (by decide) (by kernel_rfl) hS (fun K hK => ?_)
                    simp only [Mix.pick]
                    repeat (go_big_quiet_step (fail))
                    refine wpQuiet_nil (hK _ ?_)
                    clear hK K
                    refine MixH.take 6 3 _ ((.slice (some ⟨gt, 0, none⟩) m tc)) rfl (by kernel_rfl) (by kernel_rfl) (by kernel_rfl) (by kernel_rfl) (yields_bkn (.tmp 143) rfl ⟨p, 0, none⟩ ((.slice (some ⟨gt, 0, none⟩) m tc)) rfl rfl (fun A hA => hA.cell)) hS (fun a' ha => ?_)
                    simp only [Act.put, List.setIfInBounds_toArray, List.set_cons_succ, List.set_cons_zero] at ha
                    subst ha
                    refine MixH.take 5 8 _ ((.slice (some ⟨gt, 0, none⟩) m tc)) rfl (by kernel_rfl) (by kernel_rfl) (by kernel_rfl) (by kernel_rfl) (yields_bkn (.tmp 148) rfl ⟨p, 0, none⟩ ((.slice (some ⟨gt, 0, none⟩) m tc)) rfl rfl (fun A hA => hA.cell)) hS (fun a' ha => ?_)
                    simp only [Act.put, List.setIfInBounds_toArray, List.set_cons_succ, List.set_cons_zero] at ha
                    subst ha
                    refine MixH.takes [false, false, false, false, false, false, false, false, false, false, true] 4 (by kernel_rfl) (by kernel_rfl) (by decide) (by kernel_rfl) hS (fun K hK => ?_)
                    simp only [Mix.pick]
                    repeat (go_big_quiet_step (fail))
                    refine wpQuiet_nil (hK _ ?_)
                    clear hK K
                    refine MixH.one [false, false, false, false, false, false, false, false, false, false, false, true] 3 11 _ rfl rfl (by kernel_rfl) (by kernel_rfl) (fun K hK => ?_)
                    simp only [Mix.pick]
                    have cT : wX.cell? ⟨gt, j, none⟩ = some (.int .i64 z) := HX.out.1.n.pk.t.cell1 inL_len HTS.out.1 rfl
                    go_wp2_with fail
                    clear cT
                    refine ⟨rfl, hK _ _ hS ?_⟩
                    clear hK K
                    refine MixH.takes [false, false, false, false, false, false, false, false, false, false, false, false, false, true, true] 1 (by kernel_rfl) (by kernel_rfl) (by decide) (by kernel_rfl) hS (fun K hK => ?_)
                    simp only [Mix.pick]
                    repeat (go_big_quiet_step (fail))
                    refine wpQuiet_nil (hK _ ?_)
                    clear hK K
                    refine MixH.one [false, false, false, false, false, false, false, false, false, false, false, false, false, false, false, true] 0 15 _ rfl rfl (by kernel_rfl) (by kernel_rfl) (fun K hK => ?_)
                    simp only [Mix.pick]
                    have cT : wX.cell? ⟨gt, j, none⟩ = some (.int .i64 z) := HX.out.1.n.pk.t.cell1 inL_len HTS.out.1 rfl
                    have zT := HX.out.1.n.pk.t.frozen j
                    have kk : Ch (fun q => q = gt) wX (wX.setCell ⟨gt, j, none⟩ (.int .i64 (z - x2))) := (Ch.refl (fun q => q = gt) wX).set ⟨gt, j, none⟩ _ rfl
                    have hpg : ¬ p = gt := fun e => by
                      have h1 := HX.out.1.n.pk.at'
                      rw [e] at h1
                      obtain ⟨_, _, c, hc⟩ := HX.out.1.n.pk.t.kind gt rfl
                      exact tk_ne h1 hc (by decide)
                    have H8 : Hid (QPI w P G (popQ cs t) (popT cs t) B (.slice (some ⟨gl, 0, none⟩) m cl) (.slice (some ⟨gb, 0, none⟩) m cb) (.slice (some ⟨gs, 0, none⟩) m cs') ms6 (popQ cs t) (some ⟨ab, off, none⟩) l2 p (.slice (some ⟨gt, 0, none⟩) m tc) ((popQ cs t).map CL.tk) gp N2 N2 ps (wX.setCell ⟨gt, j, none⟩ (.int .i64 (z - x2))) ∧ ((popQ cs t)).length = m ∧ GL 1 blL 4 (wX.setCell ⟨gt, j, none⟩ (.int .i64 (z - x2))) x1.heap.size (.slice xa m xc) (rdL cs m)) := by
                      have h1 := HX.out.1.setT (ts' := (popQ cs t).map CL.tk) (kk.mono (fun q _ e => by have e' : q = gt := e; rw [e']; rfl)) ⟨HX.out.1.n.pk.lo, HX.out.1.n.pk.at'.ch kk hpg, by rw [HTS.out.2]; exact HX.out.1.n.pk.t.set1 inL_len (u := .int .i64 (z - x2)) rfl (List.getElem?_eq_some_iff.1 HTS.out.1).1⟩
                      refine ⟨h1.1, HEV.out.len, HX.out.2.ch kk (fun q hq e => ?_)⟩
                      have e' : q = gt := e
                      subst e'
                      obtain ⟨_, _, c, hc⟩ := HX.out.1.n.pk.t.kind q rfl
                      obtain ⟨_, _, c2, hc2⟩ := HX.out.2.kind q hq
                      exact tk_ne hc hc2 (by decide)
                    replace hS : PurAt (wX.setCell ⟨gt, j, none⟩ (.int .i64 (z - x2))) p (.slice (some ⟨gt, 0, none⟩) m tc) := hS.ch kk hpg
                    clear kk hpg
                    go_wp2_with fail
                    clear cT zT
                    refine ⟨rfl, hK _ _ hS ?_⟩
                    clear hK K
                    refine MixH.done (by kernel_rfl) ?_
                    clear hS
                    obtain ⟨w8, hw8⟩ : ∃ y, wX.setCell ⟨gt, j, none⟩ (.int .i64 (z - x2)) = y := ⟨_, rfl⟩
                    rw [hw8] at H8 ⊢
                    clear hw8 H6 HX
                    go_wp2_with fail
                    refine Calls.mono (H8.out.1.all m c1 H8.out.2.1 hm8.2) ?_
                    rintro e9 w9 ⟨ya, yc, rfl, gy, q9, kb9⟩
                    have H9 : Hid (QPI w P G (popQ cs t) (popT cs t) B (.slice (some ⟨gl, 0, none⟩) m cl) (.slice (some ⟨gb, 0, none⟩) m cb) (.slice (some ⟨gs, 0, none⟩) m cs') ms6 (popQ cs t) (some ⟨ab, off, none⟩) l2 p (.slice (some ⟨gt, 0, none⟩) m tc) ((popQ cs t).map CL.tk) gp N2 N2 ps w9 ∧ GL 1 blL 4 w9 w8.heap.size (.slice ya m yc) (rdL (popQ cs t) m) ∧ GL 1 blL 4 w9 x1.heap.size (.slice xa m xc) (rdL cs m)) := ⟨q9, gy, kb9.gl H8.out.2.2⟩
                    have QE : Hid _ := H9.out.1.even m c1 HL2.out hm8 HN2.out x1.heap.size w8.heap.size xa ya xc yc (rdL cs m) (rdL (popQ cs t) m) H9.out.2.2 (rdL_len cs m) H9.out.2.1 (rdL_len (popQ cs t) m) j x2 HX2.out HLQ.out (SB.out.2.pb.mono (by have := HLT.out; omega)) HBD.out
                    clear gy q9 kb9 H8
                    go_wp2_with fail
                    refine Calls.mono QE.out ?_
                    rintro e10 w10 ⟨rfl, q10⟩
                    have H10 : Hid (QPI w P G (popQ cs t) (popT cs t) B (.slice (some ⟨gl, 0, none⟩) m cl) (.slice (some ⟨gb, 0, none⟩) m cb) (.slice (some ⟨gs, 0, none⟩) m cs') ms6 (popQ cs t) (some ⟨ab, off, none⟩) l2 p (.slice (some ⟨gt, 0, none⟩) m tc) (((popQ cs t)).map CL.tk) gp N2 N2 (evL (rdL cs m) (rdL (popQ cs t) m) m j x2 ps) w10 ∧ EvP l2 m (popQ cs t) (popT cs t) ms6 (evL (rdL cs m) (rdL (popQ cs t) m) m j x2 ps) (Kn + (i : Int) + 1)) := ⟨q10, HEV.out⟩
                    clear q10 QE H9 SB HEV HBD
                    go_wp2_with fail
                    go_roundw
                    case rel => exact ⟨i + 1, _, _, _, _, by first | rfl | go_num, by have := HLT.out; omega, by have h1 := H10.out; rw [show (((i + 1 : Nat)) : Int) = (i : Int) + 1 by omega, ← Int.add_assoc]; exact h1⟩
                    case measure => have := HLT.out; simp [intOf]; omega
                · have r1 : decide ((0 : Int) < l.ra) = false := decide_eq_false hra
                  have H8 : Hid (QPI w P G (popQ cs t) (popT cs t) B (.slice (some ⟨gl, 0, none⟩) m cl) (.slice (some ⟨gb, 0, none⟩) m cb) (.slice (some ⟨gs, 0, none⟩) m cs') ms6 (popQ cs t) (some ⟨ab, off, none⟩) l2 p (.slice (some ⟨gt, 0, none⟩) m tc) ((popQ cs t).map CL.tk) gp N2 N2 ps w6 ∧ ((popQ cs t)).length = m ∧ GL 1 blL 4 w6 x1.heap.size (.slice xa m xc) (rdL cs m)) := ⟨by have h1 := H6.out.1; rw [HJ.out.2.2.1, take_tks0 HJ.out.1 (by rw [hl]; exact hra), ← HJ.out.2.2.1]; exact h1, HEV.out.len, H6.out.2⟩
                  clear hra hl hqo hlo H6
                  as_aux_lemma =>
                    go_upto_region 37 with fail
                    clear cr
                    go_wp2_with fail
                    refine Calls.mono (H8.out.1.all m c1 H8.out.2.1 hm8.2) ?_
                    rintro e9 w9 ⟨ya, yc, rfl, gy, q9, kb9⟩
                    have H9 : Hid (QPI w P G (popQ cs t) (popT cs t) B (.slice (some ⟨gl, 0, none⟩) m cl) (.slice (some ⟨gb, 0, none⟩) m cb) (.slice (some ⟨gs, 0, none⟩) m cs') ms6 (popQ cs t) (some ⟨ab, off, none⟩) l2 p (.slice (some ⟨gt, 0, none⟩) m tc) ((popQ cs t).map CL.tk) gp N2 N2 ps w9 ∧ GL 1 blL 4 w9 w6.heap.size (.slice ya m yc) (rdL (popQ cs t) m) ∧ GL 1 blL 4 w9 x1.heap.size (.slice xa m xc) (rdL cs m)) := ⟨q9, gy, kb9.gl H8.out.2.2⟩
                    have QE : Hid _ := H9.out.1.even m c1 HL2.out hm8 HN2.out x1.heap.size w6.heap.size xa ya xc yc (rdL cs m) (rdL (popQ cs t) m) H9.out.2.2 (rdL_len cs m) H9.out.2.1 (rdL_len (popQ cs t) m) j x2 HX2.out HLQ.out (SB.out.2.pb.mono (by have := HLT.out; omega)) HBD.out
                    clear gy q9 kb9 H8
                    go_wp2_with fail
                    refine Calls.mono QE.out ?_
                    rintro e10 w10 ⟨rfl, q10⟩
                    have H10 : Hid (QPI w P G (popQ cs t) (popT cs t) B (.slice (some ⟨gl, 0, none⟩) m cl) (.slice (some ⟨gb, 0, none⟩) m cb) (.slice (some ⟨gs, 0, none⟩) m cs') ms6 (popQ cs t) (some ⟨ab, off, none⟩) l2 p (.slice (some ⟨gt, 0, none⟩) m tc) (((popQ cs t)).map CL.tk) gp N2 N2 (evL (rdL cs m) (rdL (popQ cs t) m) m j x2 ps) w10 ∧ EvP l2 m (popQ cs t) (popT cs t) ms6 (evL (rdL cs m) (rdL (popQ cs t) m) m j x2 ps) (Kn + (i : Int) + 1)) := ⟨q10, HEV.out⟩
                    clear q10 QE H9 SB HEV HBD
                    go_wp2_with fail
                    go_roundw
                    case rel => exact ⟨i + 1, _, _, _, _, by first | rfl | go_num, by have := HLT.out; omega, by have h1 := H10.out; rw [show (((i + 1 : Nat)) : Int) = (i : Int) + 1 by omega, ← Int.add_assoc]; exact h1⟩
                    case measure => have := HLT.out; simp [intOf]; omega
          · have q2 : (kd == 2) = false := by simpa using h2
            clear h1 h2 h4 SO
            have H6 : Hid (QPI w P G cs t B (.slice (some ⟨gl, 0, none⟩) m cl) (.slice (some ⟨gb, 0, none⟩) m cb) (.slice (some ⟨gs, 0, none⟩) m cs') ms cs (some ⟨ab, off, none⟩) l2 p (.slice (some ⟨gt, 0, none⟩) m tc) ((cs).map CL.tk) gp N2 N2 ps x1 ∧ EvP l2 m cs t ms ps (Kn + (i : Int) + 1)) := ⟨SB.out.1, SB.out.2.mono (by omega)⟩
            clear SB
            as_aux_lemma =>
              go_wp2_with fail
              go_roundw
              case rel => exact ⟨i + 1, _, _, _, _, by first | rfl | go_num, by have := HLT.out; omega, by have h1 := H6.out; rw [show (((i + 1 : Nat)) : Int) = (i : Int) + 1 by omega, ← Int.add_assoc]; exact h1⟩
              case measure => have := HLT.out; simp [intOf]; omega
end Go.Proofs.Ytclkcpdghpaboaa
