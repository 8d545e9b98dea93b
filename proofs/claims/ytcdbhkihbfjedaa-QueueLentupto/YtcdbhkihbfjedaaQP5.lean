/-
  Layer 18: plays: a script on two queues in turns.
-/
import Derived.Test.YtcdbhkihbfjedaaQP4
namespace Go.Proofs.Ytcdbhkihbfjedaa
open Go.RowKit Go.ChangeShapes Go.WideShapes

theorem op_at' {w w' : World} {a : Option Addr} {ops : List OV} (h : ListG 5 ocL OpOk w a ops) (b : Below w.heap.size w w') (i : Nat) (hi : i < ops.length) : ∃ kd tw cl sz it, ∃ g off, a = some ⟨g, off, none⟩ ∧ w'.rangeAt g (off + i * 5) (opC ⟨kd, tw, cl, sz, it⟩).toList := by
  obtain ⟨hok, g, off, ha, hlt, hc⟩ := (ListG.old h b).at i ops[i] (List.getElem?_eq_getElem hi)
  refine ⟨ops[i].kd, ops[i].tw, ops[i].cl, ops[i].sz, ops[i].it, g, off, ha, fun j v hj => ?_⟩
  have hj' : j < 5 := (List.getElem?_eq_some_iff.1 hj).1
  rw [hc j hj']
  exact hj
set_option maxHeartbeats 12800000 in
set_option maxRecDepth 100000 in
theorem plays_any (w : World) (a : Option Addr) (n cap : Nat) (ls : List LI) (hl : ls.length = n) (hs : ListG 5 liL LiW w a ls) (hn : n ≤ 1048576) (b : Option Addr) (len bcap : Nat) (ops : List OV) (hl2 : ops.length = len) (hs2 : ListG 5 ocL OpOk w b ops) (hn2 : len ≤ 1048576) (lo hi : Int) : Calls Try.prog 35 #[.slice a n cap, .slice b len bcap, .int .i64 lo, .int .i64 hi] w fun e w' => e = .returned (.bool true) ∧ Below w.heap.size w w' := by
  have HL : Hid (ls.length = n ∧ ListG 5 liL LiW w a ls ∧ n ≤ 1048576) := ⟨hl, hs, hn⟩
  have HS : Hid (ListG 5 ocL OpOk w b ops ∧ ops.length = len ∧ len ≤ 1048576) := ⟨hs2, hl2, hn2⟩
  have hlen : len ≤ 1048576 := hn2
  clear hl hs hn hl2 hs2 hn2
  go_enter Try.func35, Try.ntmps35
  go_wp2_with fail
  refine Calls.mono (started_any w) ?_
  rintro e1 w1 ⟨rfl, b1⟩
  have H1 : Hid (Below w.heap.size w w1) := b1
  have QM : Hid _ := made_any a n cap ls w1 HL.out.1 (HL.out.2.1.old b1) (by have h1 := HL.out.2.2; omega)
  clear b1
  obtain ⟨l1, hl1⟩ : ∃ l1, qls ls = l1 := ⟨_, rfl⟩
  rw [hl1] at QM
  clear hl1
  go_wp2_with fail
  refine Calls.mono QM.out ?_
  rintro e2 w2 ⟨P, G, u, rfl, q2, a2, b2, hP, hG⟩
  have H2 : Hid (Q1 w P G (c0s l1) tz w2 ∧ AL w2 u (c0s l1) tz (l1.map rmk)) := by
    have hs := H1.out.size
    exact ⟨⟨l1.map mk, csOf_mk _, q2, bthen H1.out b2, mk_out (by omega) (by omega)⟩, a2⟩
  clear q2 a2 b2 hP hG QM
  go_upto_region 5 with (first | (refine wpList_nil_sdv rfl rfl ?_; intro BP X hB hX bX) | (refine wpList_store_sdv (.tmp 10) (.tmp 20) rfl rfl BP sz0 ⟨some ⟨P, 0, none⟩, u⟩ rfl rfl hX rfl ?_; intro w9 h9 k9))
  have HBP : Hid (w.heap.size ≤ BP) := by
    have g1 := hB.out
    have g2 := H2.out.1.bel.size
    show _ ≤ _
    omega
  have H3 : Hid (SdvAt w9 BP ⟨some ⟨P, 0, none⟩, u⟩ ∧ Q1 w P G (c0s l1) tz w9 ∧ AL w9 u (c0s l1) tz (l1.map rmk)) := ⟨h9, (und1 w P G).ch (H2.out.1.below bX) k9 HBP.out hX (by decide) (by decide) (by decide), (H2.out.2.below bX).ks k9 hX (by decide) (by decide)⟩
  clear hB hX bX h9 k9 H2
  go_wp2_with fail
  refine Calls.mono (two_any w9) ?_
  rintro e3 w3 ⟨rfl, l3, _, b3⟩
  obtain ⟨B, hB⟩ : ∃ B, w9.heap.size = B := ⟨_, rfl⟩
  rw [hB] at l3 ⊢
  have QM : Hid _ := made_any (some ⟨B, 0, none⟩) 2 2 two0 w3 rfl l3 (by decide)
  rw [qls_two] at QM
  have H4 : Hid (SdvAt w3 BP ⟨some ⟨P, 0, none⟩, u⟩ ∧ Q1 w P G (c0s l1) tz w3 ∧ AL w3 u (c0s l1) tz (l1.map rmk)) := ⟨H3.out.1.below b3, H3.out.2.1.below b3, H3.out.2.2.below b3⟩
  clear l3 b3 hB H3
  go_wp2_with fail
  refine Calls.mono QM.out ?_
  rintro e4 w4 ⟨P', G', u', rfl, q2, a2, b2, hP, hG⟩
  have H5 : Hid (SdvAt w4 BP ⟨some ⟨P, 0, none⟩, u⟩ ∧ Q2 w P G (c0s l1) tz P' G' (c0s two0) tz w4 ∧ AL w4 u (c0s l1) tz (l1.map rmk) ∧ AL w4 u' (c0s two0) tz (two0.map rmk)) := ⟨H4.out.1.below b2, (by have hh := H4.out.2.1.and q2 b2 (mk_out hP hG); rw [csOf_mk] at hh; exact hh), H4.out.2.2.below b2, a2⟩
  clear q2 a2 b2 hP hG QM H4
  go_upto_region 8 with (first | (refine wpList_nil_sdv rfl rfl ?_; intro BQ X hB hX bX) | (refine wpList_store_sdv (.tmp 11) (.tmp 27) rfl rfl BQ sz0 ⟨some ⟨P', 0, none⟩, u'⟩ rfl rfl hX rfl ?_; intro x9 h9 k9))
  have HBQ : Hid (w.heap.size ≤ BP ∧ BP < BQ) := by
    have g1 := hB.out
    have g2 := (Array.getElem?_eq_some_iff.1 H5.out.1).1
    exact ⟨HBP.out, by omega⟩
  have H6 : Hid (SdvAt x9 BP ⟨some ⟨P, 0, none⟩, u⟩ ∧ SdvAt x9 BQ ⟨some ⟨P', 0, none⟩, u'⟩ ∧ Q2 w P G (c0s l1) tz P' G' (c0s two0) tz x9 ∧ AL x9 u (c0s l1) tz (l1.map rmk) ∧ AL x9 u' (c0s two0) tz (two0.map rmk)) := by
    have g1 := HBQ.out
    exact ⟨(H5.out.1.below bX).ch k9 (by omega), h9, (und2 w P G P' G' _ _).ch (H5.out.2.1.below bX) k9 (by omega) hX (by decide) (by decide) (by decide), (H5.out.2.2.1.below bX).ks k9 hX (by decide) (by decide), (H5.out.2.2.2.below bX).ks k9 hX (by decide) (by decide)⟩
  clear hB hX bX h9 k9 H5 HBP H1
  go_wp2_with fail
  go_loopw [9, 12] (fun bv iv wr => ∃ (i : Nat) (v : RQ) (rs : List RL) (cs : List CL) (t : TN) (v' : RQ) (rs' : List RL) (cs' : List CL) (t' : TN), i ≤ len ∧ bv = .bool true ∧ iv = .int .i64 (i : Nat) ∧ Hid (SdvAt wr BP ⟨some ⟨P, 0, none⟩, v⟩ ∧ SdvAt wr BQ ⟨some ⟨P', 0, none⟩, v'⟩ ∧ Q2 w P G cs t P' G' cs' t' wr ∧ AL wr v cs t rs ∧ AL wr v' cs' t' rs')) (fun _ iv _ => len - (intOf iv).toNat)
  case atStart => exact ⟨0, u, _, _, _, u', _, _, _, Nat.zero_le _, rfl, rfl, H6.out⟩
  case round =>
    obtain ⟨i, v, rs, cs, t, v', rs', cs', t', hil, rfl, rfl, HI⟩ := hrel
    clear H6
    by_cases hlt : i < len
    · have p1 : decide ((i : Int) < (len : Int)) = true := decide_eq_true (by omega)
      have p2 : decide (i < len) = true := decide_eq_true hlt
      have k0 : (0 : Int) ≤ (i : Int) := by omega
      have k1 : (i : Int) < (len : Int) := by omega
      have k2 : ((i : Int)).toNat = i := by omega
      have wi : IntKind.i64.wrap ((i : Int) + 1) = (i : Int) + 1 := i64_s _ (by omega) (by omega)
      obtain ⟨kd, tw, cl, sz, it, g, off, rfl, hrg⟩ := op_at' HS.out.1 HI.out.2.2.1.bel i (by rw [HS.out.2.1]; exact hlt)
      have HRG : Hid (wr.rangeAt g (off + i * 5) (opC ⟨kd, tw, cl, sz, it⟩).toList) := hrg
      have HLT : Hid (i < len) := hlt
      clear hrg hil hlt
      go_upto_region 12 with (first | (refine wpList_mid_opv (.tmp 40) rfl g (off + i * 5) ⟨kd, tw, cl, sz, it⟩ rfl HRG.out rfl ?_) | (refine wpList_nil_opv rfl rfl ?_; intro BO X hB hX bX) | (refine wpList_store_opv (.tmp 13) (.tmp 41) rfl rfl BO oz ⟨kd, tw, cl, sz, it⟩ rfl rfl hX rfl ?_; intro x1 h1 kk1))
      have bx : Below wr.heap.size wr x1 := bX.trans (kk1.below (fun q hq => by have g1 := hB.out; omega) bX.size)
      have S : Hid ((SdvAt x1 BP ⟨some ⟨P, 0, none⟩, v⟩ ∧ SdvAt x1 BQ ⟨some ⟨P', 0, none⟩, v'⟩ ∧ Q2 w P G cs t P' G' cs' t' x1 ∧ AL x1 v cs t rs ∧ AL x1 v' cs' t' rs') ∧ OpvAt x1 BO ⟨kd, tw, cl, sz, it⟩) := ⟨⟨HI.out.1.below bx, HI.out.2.1.below bx, HI.out.2.2.1.below bx, HI.out.2.2.2.1.below bx, HI.out.2.2.2.2.below bx⟩, h1⟩
      clear hB hX bX h1 kk1 bx HRG HI
      have d0 : x1.cell? ⟨BO, 0, none⟩ = some (.int .i64 kd) := S.out.2.cell 0
      have d1 : x1.cell? ⟨BO, 1, none⟩ = some (.bool tw) := S.out.2.cell 1
      by_cases h3 : kd = 3
      · have q3 : (kd == 3) = true := by simpa using h3
        clear h3
        by_cases hl : kd < lo
        · have ql : decide (kd < lo) = true := decide_eq_true hl
          clear hl
          go_wp2_with fail
          go_roundw
          case rel => exact ⟨i + 1, v, rs, cs, t, v', rs', cs', t', by have := HLT.out; omega, rfl, rfl, S.out.1⟩
          case measure => have := HLT.out; simp only [intOf]; omega
        · have ql : decide (kd < lo) = false := decide_eq_false hl
          clear hl
          by_cases hu : hi < kd
          · have qu : decide (hi < kd) = true := decide_eq_true hu
            clear hu
            go_wp2_with fail
            go_roundw
            case rel => exact ⟨i + 1, v, rs, cs, t, v', rs', cs', t', by have := HLT.out; omega, rfl, rfl, S.out.1⟩
            case measure => have := HLT.out; simp only [intOf]; omega
          · have qu : decide (hi < kd) = false := decide_eq_false hu
            clear hu
            go_upto_region 13 with fail
            clear d0
            cases tw with
            | true =>
              have QS : Hid _ := step_any (und2' w P' G' P G cs t) v' rs' cs' t' kd cl sz it true x1 S.out.1.2.2.1 S.out.1.2.2.2.2
              go_wp2_with (first | (refine wpList_load_sdv (.tmp 11) rfl BQ ⟨some ⟨P', 0, none⟩, v'⟩ rfl S.out.1.2.1 rfl ?_) | (refine wpList_load_opv (.tmp 13) rfl BO ⟨kd, true, cl, sz, it⟩ rfl S.out.2 rfl ?_))
              refine Calls.mono QS.out ?_
              rintro e5 w5 ⟨v5, rs5, cs5, t5, rfl, j5, a5, k5⟩
              have H5 : Hid (SdvAt w5 BP ⟨some ⟨P, 0, none⟩, v⟩ ∧ SdvAt w5 BQ ⟨some ⟨P', 0, none⟩, v'⟩ ∧ Q2 w P G cs t P' G' cs5 t5 w5 ∧ AL w5 v cs t rs ∧ AL w5 v5 cs5 t5 rs5) := ⟨S.out.1.1.kp k5, S.out.1.2.1.kp k5, j5, S.out.1.2.2.2.1.kp k5, a5⟩
              clear j5 a5 k5 QS d1
              go_wp2_with (first | (refine wpList_store_sdv (.tmp 11) (.tmp 68) rfl rfl BQ ⟨some ⟨P', 0, none⟩, v'⟩ ⟨some ⟨P', 0, none⟩, v5⟩ rfl rfl H5.out.2.1 rfl ?_))
              intro w6 h6 k6
              have H6 : Hid (SdvAt w6 BP ⟨some ⟨P, 0, none⟩, v⟩ ∧ SdvAt w6 BQ ⟨some ⟨P', 0, none⟩, v5⟩ ∧ Q2 w P G cs t P' G' cs5 t5 w6 ∧ AL w6 v cs t rs ∧ AL w6 v5 cs5 t5 rs5) := by
                have g1 := HBQ.out
                exact ⟨H5.out.1.ch k6 (by omega), h6, (und2 w P G P' G' _ _).ch H5.out.2.2.1 k6 (by omega) H5.out.2.1 (by decide) (by decide) (by decide), H5.out.2.2.2.1.ks k6 H5.out.2.1 (by decide) (by decide), H5.out.2.2.2.2.ks k6 H5.out.2.1 (by decide) (by decide)⟩
              clear h6 k6 H5
              go_wp2_with fail
              go_roundw
              case rel => exact ⟨i + 1, v, rs, cs, t, v5, rs5, cs5, t5, by have := HLT.out; omega, rfl, rfl, H6.out⟩
              case measure => have := HLT.out; simp only [intOf]; omega
            | false =>
              have QS : Hid _ := step_any (und2 w P G P' G' cs' t') v rs cs t kd cl sz it false x1 S.out.1.2.2.1 S.out.1.2.2.2.1
              go_wp2_with (first | (refine wpList_load_sdv (.tmp 10) rfl BP ⟨some ⟨P, 0, none⟩, v⟩ rfl S.out.1.1 rfl ?_) | (refine wpList_load_opv (.tmp 13) rfl BO ⟨kd, false, cl, sz, it⟩ rfl S.out.2 rfl ?_))
              refine Calls.mono QS.out ?_
              rintro e5 w5 ⟨v5, rs5, cs5, t5, rfl, j5, a5, k5⟩
              have H5 : Hid (SdvAt w5 BP ⟨some ⟨P, 0, none⟩, v⟩ ∧ SdvAt w5 BQ ⟨some ⟨P', 0, none⟩, v'⟩ ∧ Q2 w P G cs5 t5 P' G' cs' t' w5 ∧ AL w5 v5 cs5 t5 rs5 ∧ AL w5 v' cs' t' rs') := ⟨S.out.1.1.kp k5, S.out.1.2.1.kp k5, j5, a5, S.out.1.2.2.2.2.kp k5⟩
              clear j5 a5 k5 QS d1
              go_wp2_with (first | (refine wpList_store_sdv (.tmp 10) (.tmp 74) rfl rfl BP ⟨some ⟨P, 0, none⟩, v⟩ ⟨some ⟨P, 0, none⟩, v5⟩ rfl rfl H5.out.1 rfl ?_))
              intro w6 h6 k6
              have H6 : Hid (SdvAt w6 BP ⟨some ⟨P, 0, none⟩, v5⟩ ∧ SdvAt w6 BQ ⟨some ⟨P', 0, none⟩, v'⟩ ∧ Q2 w P G cs5 t5 P' G' cs' t' w6 ∧ AL w6 v5 cs5 t5 rs5 ∧ AL w6 v' cs' t' rs') := by
                have g1 := HBQ.out
                exact ⟨h6, H5.out.2.1.ch k6 (by omega), (und2 w P G P' G' _ _).ch H5.out.2.2.1 k6 (by omega) H5.out.1 (by decide) (by decide) (by decide), H5.out.2.2.2.1.ks k6 H5.out.1 (by decide) (by decide), H5.out.2.2.2.2.ks k6 H5.out.1 (by decide) (by decide)⟩
              clear h6 k6 H5
              go_wp2_with fail
              go_roundw
              case rel => exact ⟨i + 1, v5, rs5, cs5, t5, v', rs', cs', t', by have := HLT.out; omega, rfl, rfl, H6.out⟩
              case measure => have := HLT.out; simp only [intOf]; omega
      · have q3 : (kd == 3) = false := by simpa using h3
        clear h3
        by_cases h5 : kd = 5
        · have q5 : (kd == 5) = true := by simpa using h5
          clear h5
          by_cases hl : kd < lo
          · have ql : decide (kd < lo) = true := decide_eq_true hl
            clear hl
            go_wp2_with fail
            go_roundw
            case rel => exact ⟨i + 1, v, rs, cs, t, v', rs', cs', t', by have := HLT.out; omega, rfl, rfl, S.out.1⟩
            case measure => have := HLT.out; simp only [intOf]; omega
          · have ql : decide (kd < lo) = false := decide_eq_false hl
            clear hl
            by_cases hu : hi < kd
            · have qu : decide (hi < kd) = true := decide_eq_true hu
              clear hu
              go_wp2_with fail
              go_roundw
              case rel => exact ⟨i + 1, v, rs, cs, t, v', rs', cs', t', by have := HLT.out; omega, rfl, rfl, S.out.1⟩
              case measure => have := HLT.out; simp only [intOf]; omega
            · have qu : decide (hi < kd) = false := decide_eq_false hu
              clear hu
              go_upto_region 13 with fail
              clear d0
              cases tw with
              | true =>
                have QS : Hid _ := step_any (und2' w P' G' P G cs t) v' rs' cs' t' kd cl sz it true x1 S.out.1.2.2.1 S.out.1.2.2.2.2
                go_wp2_with (first | (refine wpList_load_sdv (.tmp 11) rfl BQ ⟨some ⟨P', 0, none⟩, v'⟩ rfl S.out.1.2.1 rfl ?_) | (refine wpList_load_opv (.tmp 13) rfl BO ⟨kd, true, cl, sz, it⟩ rfl S.out.2 rfl ?_))
                refine Calls.mono QS.out ?_
                rintro e5 w5 ⟨v5, rs5, cs5, t5, rfl, j5, a5, k5⟩
                have H5 : Hid (SdvAt w5 BP ⟨some ⟨P, 0, none⟩, v⟩ ∧ SdvAt w5 BQ ⟨some ⟨P', 0, none⟩, v'⟩ ∧ Q2 w P G cs t P' G' cs5 t5 w5 ∧ AL w5 v cs t rs ∧ AL w5 v5 cs5 t5 rs5) := ⟨S.out.1.1.kp k5, S.out.1.2.1.kp k5, j5, S.out.1.2.2.2.1.kp k5, a5⟩
                clear j5 a5 k5 QS d1
                go_wp2_with (first | (refine wpList_store_sdv (.tmp 11) (.tmp 68) rfl rfl BQ ⟨some ⟨P', 0, none⟩, v'⟩ ⟨some ⟨P', 0, none⟩, v5⟩ rfl rfl H5.out.2.1 rfl ?_))
                intro w6 h6 k6
                have H6 : Hid (SdvAt w6 BP ⟨some ⟨P, 0, none⟩, v⟩ ∧ SdvAt w6 BQ ⟨some ⟨P', 0, none⟩, v5⟩ ∧ Q2 w P G cs t P' G' cs5 t5 w6 ∧ AL w6 v cs t rs ∧ AL w6 v5 cs5 t5 rs5) := by
                  have g1 := HBQ.out
                  exact ⟨H5.out.1.ch k6 (by omega), h6, (und2 w P G P' G' _ _).ch H5.out.2.2.1 k6 (by omega) H5.out.2.1 (by decide) (by decide) (by decide), H5.out.2.2.2.1.ks k6 H5.out.2.1 (by decide) (by decide), H5.out.2.2.2.2.ks k6 H5.out.2.1 (by decide) (by decide)⟩
                clear h6 k6 H5
                go_wp2_with fail
                go_roundw
                case rel => exact ⟨i + 1, v, rs, cs, t, v5, rs5, cs5, t5, by have := HLT.out; omega, rfl, rfl, H6.out⟩
                case measure => have := HLT.out; simp only [intOf]; omega
              | false =>
                have QS : Hid _ := step_any (und2 w P G P' G' cs' t') v rs cs t kd cl sz it false x1 S.out.1.2.2.1 S.out.1.2.2.2.1
                go_wp2_with (first | (refine wpList_load_sdv (.tmp 10) rfl BP ⟨some ⟨P, 0, none⟩, v⟩ rfl S.out.1.1 rfl ?_) | (refine wpList_load_opv (.tmp 13) rfl BO ⟨kd, false, cl, sz, it⟩ rfl S.out.2 rfl ?_))
                refine Calls.mono QS.out ?_
                rintro e5 w5 ⟨v5, rs5, cs5, t5, rfl, j5, a5, k5⟩
                have H5 : Hid (SdvAt w5 BP ⟨some ⟨P, 0, none⟩, v⟩ ∧ SdvAt w5 BQ ⟨some ⟨P', 0, none⟩, v'⟩ ∧ Q2 w P G cs5 t5 P' G' cs' t' w5 ∧ AL w5 v5 cs5 t5 rs5 ∧ AL w5 v' cs' t' rs') := ⟨S.out.1.1.kp k5, S.out.1.2.1.kp k5, j5, a5, S.out.1.2.2.2.2.kp k5⟩
                clear j5 a5 k5 QS d1
                go_wp2_with (first | (refine wpList_store_sdv (.tmp 10) (.tmp 74) rfl rfl BP ⟨some ⟨P, 0, none⟩, v⟩ ⟨some ⟨P, 0, none⟩, v5⟩ rfl rfl H5.out.1 rfl ?_))
                intro w6 h6 k6
                have H6 : Hid (SdvAt w6 BP ⟨some ⟨P, 0, none⟩, v5⟩ ∧ SdvAt w6 BQ ⟨some ⟨P', 0, none⟩, v'⟩ ∧ Q2 w P G cs5 t5 P' G' cs' t' w6 ∧ AL w6 v5 cs5 t5 rs5 ∧ AL w6 v' cs' t' rs') := by
                  have g1 := HBQ.out
                  exact ⟨h6, H5.out.2.1.ch k6 (by omega), (und2 w P G P' G' _ _).ch H5.out.2.2.1 k6 (by omega) H5.out.1 (by decide) (by decide) (by decide), H5.out.2.2.2.1.ks k6 H5.out.1 (by decide) (by decide), H5.out.2.2.2.2.ks k6 H5.out.1 (by decide) (by decide)⟩
                clear h6 k6 H5
                go_wp2_with fail
                go_roundw
                case rel => exact ⟨i + 1, v5, rs5, cs5, t5, v', rs', cs', t', by have := HLT.out; omega, rfl, rfl, H6.out⟩
                case measure => have := HLT.out; simp only [intOf]; omega
        · have q5 : (kd == 5) = false := by simpa using h5
          clear h5
          go_upto_region 13 with fail
          clear d0
          cases tw with
          | true =>
            have QS : Hid _ := step_any (und2' w P' G' P G cs t) v' rs' cs' t' kd cl sz it true x1 S.out.1.2.2.1 S.out.1.2.2.2.2
            go_wp2_with (first | (refine wpList_load_sdv (.tmp 11) rfl BQ ⟨some ⟨P', 0, none⟩, v'⟩ rfl S.out.1.2.1 rfl ?_) | (refine wpList_load_opv (.tmp 13) rfl BO ⟨kd, true, cl, sz, it⟩ rfl S.out.2 rfl ?_))
            refine Calls.mono QS.out ?_
            rintro e5 w5 ⟨v5, rs5, cs5, t5, rfl, j5, a5, k5⟩
            have H5 : Hid (SdvAt w5 BP ⟨some ⟨P, 0, none⟩, v⟩ ∧ SdvAt w5 BQ ⟨some ⟨P', 0, none⟩, v'⟩ ∧ Q2 w P G cs t P' G' cs5 t5 w5 ∧ AL w5 v cs t rs ∧ AL w5 v5 cs5 t5 rs5) := ⟨S.out.1.1.kp k5, S.out.1.2.1.kp k5, j5, S.out.1.2.2.2.1.kp k5, a5⟩
            clear j5 a5 k5 QS d1
            go_wp2_with (first | (refine wpList_store_sdv (.tmp 11) (.tmp 68) rfl rfl BQ ⟨some ⟨P', 0, none⟩, v'⟩ ⟨some ⟨P', 0, none⟩, v5⟩ rfl rfl H5.out.2.1 rfl ?_))
            intro w6 h6 k6
            have H6 : Hid (SdvAt w6 BP ⟨some ⟨P, 0, none⟩, v⟩ ∧ SdvAt w6 BQ ⟨some ⟨P', 0, none⟩, v5⟩ ∧ Q2 w P G cs t P' G' cs5 t5 w6 ∧ AL w6 v cs t rs ∧ AL w6 v5 cs5 t5 rs5) := by
              have g1 := HBQ.out
              exact ⟨H5.out.1.ch k6 (by omega), h6, (und2 w P G P' G' _ _).ch H5.out.2.2.1 k6 (by omega) H5.out.2.1 (by decide) (by decide) (by decide), H5.out.2.2.2.1.ks k6 H5.out.2.1 (by decide) (by decide), H5.out.2.2.2.2.ks k6 H5.out.2.1 (by decide) (by decide)⟩
            clear h6 k6 H5
            go_wp2_with fail
            go_roundw
            case rel => exact ⟨i + 1, v, rs, cs, t, v5, rs5, cs5, t5, by have := HLT.out; omega, rfl, rfl, H6.out⟩
            case measure => have := HLT.out; simp only [intOf]; omega
          | false =>
            have QS : Hid _ := step_any (und2 w P G P' G' cs' t') v rs cs t kd cl sz it false x1 S.out.1.2.2.1 S.out.1.2.2.2.1
            go_wp2_with (first | (refine wpList_load_sdv (.tmp 10) rfl BP ⟨some ⟨P, 0, none⟩, v⟩ rfl S.out.1.1 rfl ?_) | (refine wpList_load_opv (.tmp 13) rfl BO ⟨kd, false, cl, sz, it⟩ rfl S.out.2 rfl ?_))
            refine Calls.mono QS.out ?_
            rintro e5 w5 ⟨v5, rs5, cs5, t5, rfl, j5, a5, k5⟩
            have H5 : Hid (SdvAt w5 BP ⟨some ⟨P, 0, none⟩, v⟩ ∧ SdvAt w5 BQ ⟨some ⟨P', 0, none⟩, v'⟩ ∧ Q2 w P G cs5 t5 P' G' cs' t' w5 ∧ AL w5 v5 cs5 t5 rs5 ∧ AL w5 v' cs' t' rs') := ⟨S.out.1.1.kp k5, S.out.1.2.1.kp k5, j5, a5, S.out.1.2.2.2.2.kp k5⟩
            clear j5 a5 k5 QS d1
            go_wp2_with (first | (refine wpList_store_sdv (.tmp 10) (.tmp 74) rfl rfl BP ⟨some ⟨P, 0, none⟩, v⟩ ⟨some ⟨P, 0, none⟩, v5⟩ rfl rfl H5.out.1 rfl ?_))
            intro w6 h6 k6
            have H6 : Hid (SdvAt w6 BP ⟨some ⟨P, 0, none⟩, v5⟩ ∧ SdvAt w6 BQ ⟨some ⟨P', 0, none⟩, v'⟩ ∧ Q2 w P G cs5 t5 P' G' cs' t' w6 ∧ AL w6 v5 cs5 t5 rs5 ∧ AL w6 v' cs' t' rs') := by
              have g1 := HBQ.out
              exact ⟨h6, H5.out.2.1.ch k6 (by omega), (und2 w P G P' G' _ _).ch H5.out.2.2.1 k6 (by omega) H5.out.1 (by decide) (by decide) (by decide), H5.out.2.2.2.1.ks k6 H5.out.1 (by decide) (by decide), H5.out.2.2.2.2.ks k6 H5.out.1 (by decide) (by decide)⟩
            clear h6 k6 H5
            go_wp2_with fail
            go_roundw
            case rel => exact ⟨i + 1, v5, rs5, cs5, t5, v', rs', cs', t', by have := HLT.out; omega, rfl, rfl, H6.out⟩
            case measure => have := HLT.out; simp only [intOf]; omega
    · have p1 : decide ((i : Int) < (len : Int)) = false := decide_eq_false (by omega)
      have p2 : decide (i < len) = false := decide_eq_false hlt
      clear hlt hil
      go_wp2_with fail
      go_ret
      exact ⟨rfl, HI.out.2.2.1.bel⟩
end Go.Proofs.Ytcdbhkihbfjedaa
