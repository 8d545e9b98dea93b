/-
  weirref4: ParsePrefix of any text.
-/
import Derived.Test.YteldiggaooeeeaaGreatDoorC4l
import Derived.Test.YteldiggaooeeeaaGreatDoorZbb
import Derived.Test.YteldiggaooeeeaaGreatDoorB4q
import Derived.Test.YteldiggaooeeeaaGreatDoorZy
namespace Go.Proofs.YteldiggaooeeeaaGreatDoor
open Go.RowKit Go.Maps

theorem ix_at : ∀ (l : List UInt8) (k : Nat), k < l.length → (∀ j, j < k → (l.getD j 0).toNat ≠ 47) → (l.getD k 0).toNat = 47 → Lib.indexByte l 47 = (k : Int)
  | [], k, h, _, _ => by simp at h
  | b :: l, 0, _, _, h => by
    have hb : b = 47 := by apply UInt8.toNat_inj.1; simpa using h
    unfold Lib.indexByte
    rw [hb]
    rfl
  | b :: l, k + 1, h, hno, he => by
    have hb : (b == 47) = false := by
      have h1 := hno 0 (by omega)
      rw [beq_eq_false_iff_ne]
      intro e
      apply h1
      rw [e]
      rfl
    have ih := ix_at l k (by simpa using h) (fun j hj => by have := hno (j + 1) (by omega); simpa using this) (by simpa using he)
    unfold Lib.indexByte
    have hk : ((k : Int) == -1) = false := by rw [beq_eq_false_iff_ne]; omega
    rw [hb, ih, hk]
    simp
theorem ix_none : ∀ (l : List UInt8), (∀ j, j < l.length → (l.getD j 0).toNat ≠ 47) → Lib.indexByte l 47 = -1
  | [], _ => rfl
  | b :: l, hno => by
    have hb : (b == 47) = false := by
      have h1 := hno 0 (by simp)
      rw [beq_eq_false_iff_ne]
      intro e
      apply h1
      rw [e]
      rfl
    have ih := ix_none l (fun j hj => by have := hno (j + 1) (by simpa using hj); simpa using this)
    unfold Lib.indexByte
    rw [hb, ih]
    rfl
theorem sl_at {s : ByteArray} {k : Nat} (h : k < s.size) (hno : ∀ j, j < k → sB s j ≠ 47) (he : sB s k = 47) : slN47 s = (k : Int) := ix_at s.data.toList k h hno he
theorem sl_none {s : ByteArray} (hno : ∀ j, j < s.size → sB s j ≠ 47) : slN47 s = -1 := ix_none s.data.toList hno
theorem vp_46 {V : Int} {x : Nat → Nat} {n : Int} (hv : vld V x = true) (h0 : 0 ≤ n) (h1 : n ≤ (bitV V : Int)) (h : vpE ⟨V, x, n⟩ ≠ 0) : vpE ⟨V, x, n⟩ = 46 := by
  have hm : mkE V x n = 0 := by unfold mkE; rw [if_neg (by rw [hv]; decide), if_neg (by omega)]
  unfold vpE at h ⊢
  simp only [hm, if_true] at h ⊢
  by_cases hs : same16 (hdA x n.toNat) x = true
  · rw [if_pos hs] at h; exact absurd rfl h
  · rw [if_neg hs]
set_option maxHeartbeats 4000000 in
set_option maxRecDepth 100000 in
theorem parsePfxR_any (s : ByteArray) (w : World) : Calls Tryz.prog 44 #[.string s] w fun r w' => r = .returned (pxO (pPF s)) ∧ Below w.heap.size w w' := by

  by_cases hbig : 49 < s.size
  · have HF : Hid (pPF s = .inr (2, 49)) := by show pPF s = _; unfold pPF; rw [if_pos hbig]
    have q1 : decide ((49 : Int) < (s.size : Int)) = true := decide_eq_true (by omega)
    have q2 : decide (49 < s.size) = true := decide_eq_true hbig
    have q3 : (49 : Int) < (s.size : Int) := by omega
    clear hbig
    obtain ⟨W, hY⟩ : ∃ Y, Y = w.alloc (.cells (pfC pz) 38) := ⟨_, rfl⟩
    have bY : Below w.heap.size w W := by rw [hY]; exact (Below.refl _ _).alloc (Nat.le_refl _) _
    obtain ⟨I, hO⟩ : ∃ O, O = w.heap.size := ⟨_, rfl⟩
    have HNI : Hid (PfxAt W I pz) := by show PfxAt W I pz; rw [hY, hO]; exact pfx_new w pz
    have HLI : Hid (Below w.heap.size w W) := bY
    have HEI : Hid (w.alloc (.cells (pfC pz) 38) = W) := hY.symm
    have HOI : Hid (w.heap.size = I) := hO.symm
    clear hY bY hO
    go_enter Tryz.func44, Tryz.ntmps44
    go_wp2_with (first | (refine wpList_alloc_pfx rfl rfl ?_; rw [HEI.out, HOI.out]) | (refine wpList_store_pfx (.tmp 2) (.tmp 17) rfl rfl I pz pz rfl rfl HNI.out rfl ?_))
    intro wE hE kE
    have HE : Hid (PfxAt wE I pz ∧ Below w.heap.size w wE) := ⟨hE, HLI.out.trans (kE.below (fun q hq => by have h' : q = I := hq; have := HOI.out; omega) HLI.out.size)⟩
    clear hE kE
    go_wp2_with fail
    refine bodyPost_ret (results_pf3 rfl _ _ I _ rfl HE.out.1) rfl ?_
    exact ⟨by rw [HF.out]; rfl, HE.out.2⟩
  · have HSZ : Hid (s.size ≤ 49) := by show s.size ≤ 49; omega
    have q1 : decide ((49 : Int) < (s.size : Int)) = false := decide_eq_false (by omega)
    have q2 : decide (49 < s.size) = false := decide_eq_false hbig
    have q3 : ¬ (49 : Int) < (s.size : Int) := by omega
    clear hbig
    obtain ⟨W, hY⟩ : ∃ Y, Y = w.alloc (.cells (pfC pz) 38) := ⟨_, rfl⟩
    have bY : Below w.heap.size w W := by rw [hY]; exact (Below.refl _ _).alloc (Nat.le_refl _) _
    obtain ⟨I, hO⟩ : ∃ O, O = w.heap.size := ⟨_, rfl⟩
    have HNI : Hid (PfxAt W I pz) := by show PfxAt W I pz; rw [hY, hO]; exact pfx_new w pz
    have HLI : Hid (Below w.heap.size w W) := bY
    have HEI : Hid (w.alloc (.cells (pfC pz) 38) = W) := hY.symm
    have HOI : Hid (w.heap.size = I) := hO.symm
    clear hY bY hO
    go_enter Tryz.func44, Tryz.ntmps44
    go_wp2_with (first | (refine wpList_alloc_pfx rfl rfl ?_; rw [HEI.out, HOI.out]))
    go_loopw [5] (fun iv wr => ∃ i : Nat, i ≤ s.size ∧ iv = .int .i64 (i : Nat) ∧ Hid (∀ j, j < i → sB s j ≠ 47) ∧ W = wr) (fun iv _ => s.size - (intOf iv).toNat)
    case atStart => exact ⟨0, Nat.zero_le _, rfl, fun j hj => by omega, rfl⟩
    case round =>
      obtain ⟨i, hi, rfl, HNO, rfl⟩ := hrel
      by_cases his : i < s.size
      · have HIS : Hid (i < s.size) := his
        have p1 : decide ((i : Int) < (s.size : Int)) = true := decide_eq_true (by omega)
        have p2 : decide (i < s.size) = true := decide_eq_true his
        have ww1 : IntKind.i64.wrap ((i : Int) + 1) = (i : Int) + 1 := i64_s _ (by omega) (by have := HSZ.out; omega)
        clear his hi
        by_cases h47 : sB s i = 47
        · have n1 : (((sB s i : Nat) : Int) != 47) = false := by simp [h47]
          have n2 : ((sB s i : Nat) : Int) = 47 := by omega
          have n3 : ((i : Int) == (s.size : Int)) = false := by have := HIS.out; simp; omega
          have n4 : (i == s.size) = false := by have := HIS.out; simp; omega
          have hik0 : (0 : Int) ≤ (i : Int) := by omega
          have hik1 : (i : Int) ≤ (s.size : Int) := by have := HIS.out; omega
          have hsl := sl_at HIS.out HNO.out h47
          have hPF : pPF s = match pIP (s.extract 0 i) with | .inr e => .inr e | .inl (V, x) => pPF2 s i V x := by
            unfold pPF
            rw [if_neg (by have := HSZ.out; omega), hsl, if_neg (by omega)]
            rfl
          obtain ⟨u, hu⟩ : ∃ u, s.extract 0 i = u := ⟨_, rfl⟩
          rw [hu] at hPF
          have HU : Hid (s.extract 0 i = u) := hu
          clear h47 hsl hu
          go_wp2_with (refine wpList_sB (.tmp 23) (.tmp 24) rfl s i _ rfl rfl rfl HIS.out rfl ?_)
          try rw [HU.out]
          refine (parseIPR_any u W).mono ?_
          rintro e1 w1 ⟨rfl, b1⟩
          have H1 : Hid (PfxAt w1 I pz ∧ Below w.heap.size w w1) := ⟨HNI.out.below b1, bthen HLI.out b1⟩
          clear b1
          obtain ⟨w2, hw2⟩ : ∃ w2, w2 = w1.alloc (.cells (ipCells 0 (fun _ => 0)) 28) := ⟨_, rfl⟩
          have l2 : Below w1.heap.size w1 w2 := by rw [hw2]; exact (Below.refl _ _).alloc (Nat.le_refl _) _
          have a2 := ipr_new w1 0 (fun _ => 0)
          rw [← hw2] at a2
          obtain ⟨D, hD⟩ : ∃ D, w1.heap.size = D := ⟨_, rfl⟩
          rw [hD] at a2
          have HOD : Hid (w1.heap.size = D) := hD
          have HW2 : Hid (w1.alloc (.cells (ipCells 0 (fun _ => 0)) 28) = w2) := hw2.symm
          have H2 : Hid (PfxAt w2 I pz ∧ IprAt w2 D 0 (fun _ => 0) ∧ Below w.heap.size w w2 ∧ I < D) := ⟨H1.out.1.below l2, a2, bthen H1.out.2 l2, by rw [← hD]; exact H1.out.1.lt⟩
          clear hw2 l2 a2 hD n1 n2 p1 p2 n3 n4
          cases hp : pIP u with
          | inr er =>
            obtain ⟨en, pn⟩ := er
            have hne : en ≠ 0 := pIP_er hp
            rw [hp] at hPF
            have HF : Hid (pPF s = .inr (en, pn)) := hPF
            have g1 : ((en : Int) != 0) = true := by simp; omega
            have g2 : ¬ (en : Int) = 0 := by omega
            clear hPF hp hne
            show _
            simp only [ipO]
            go_wp2_with (first | (refine wpList_alloc_ipr rfl rfl ?_; rw [HW2.out, HOD.out]) | (refine wpList_store_ipr (.tmp 6) (.tmp 42) rfl rfl D 0 (fun _ => 0) 0 (fun _ => 0) rfl rfl H2.out.2.1 rfl ?_))
            intro w3 h3 k3
            have H3 : Hid (PfxAt w3 I pz ∧ IprAt w3 D 0 (fun _ => 0) ∧ Below w.heap.size w w3) := ⟨H2.out.1.ch k3 (by have := H2.out.2.2.2; omega), h3, H2.out.2.2.1.trans (k3.below (fun q hq => by have h1 := H2.out.2.2.2; have h2 := HOI.out; omega) H2.out.2.2.1.size)⟩
            clear h3 k3
            go_wp2_with (first | (refine wpList_store_pfx (.tmp 2) (.tmp 47) rfl rfl I pz pz rfl rfl H3.out.1 rfl ?_))
            intro wE hE kE
            have HE : Hid (PfxAt wE I pz ∧ Below w.heap.size w wE) := ⟨hE, H3.out.2.2.trans (kE.below (fun q hq => by have h' : q = I := hq; have := HOI.out; omega) H3.out.2.2.size)⟩
            clear hE kE
            go_wp2_with fail
            refine bodyPost_ret (results_pf3 rfl _ _ I _ rfl HE.out.1) rfl ?_
            exact ⟨by rw [HF.out]; rfl, HE.out.2⟩
          | inl Vx =>
            obtain ⟨V, x⟩ := Vx
            have HV : Hid (vld V x = true ∧ ∀ i, i < 16 → x i < 256) := ⟨pIP_ok hp, fun i _ => pIP_lt hp i⟩
            rw [hp] at hPF
            have HP2 : Hid (pPF s = pPF2 s i V x) := hPF
            clear hPF hp
            show _
            simp only [ipO]
            go_wp2_with (first | (refine wpList_alloc_ipr rfl rfl ?_; rw [HW2.out, HOD.out]) | (refine wpList_store_ipr (.tmp 6) (.tmp 42) rfl rfl D 0 (fun _ => 0) V x rfl rfl H2.out.2.1 rfl ?_))
            intro w3 h3 k3
            have H3 : Hid (PfxAt w3 I pz ∧ IprAt w3 D V x ∧ Below w.heap.size w w3) := ⟨H2.out.1.ch k3 (by have := H2.out.2.2.2; omega), h3, H2.out.2.2.1.trans (k3.below (fun q hq => by have h1 := H2.out.2.2.2; have h2 := HOI.out; omega) H2.out.2.2.1.size)⟩
            clear h3 k3
            obtain ⟨z, hz⟩ : ∃ z, i + 1 = z := ⟨_, rfl⟩
            have HZ : Hid (i + 1 = z) := hz
            have HZL : Hid (z ≤ s.size) := by have := HIS.out; show z ≤ s.size; omega
            have w1z : IntKind.i64.wrap ((i : Int) + 1) = (z : Int) := by rw [ww1]; omega
            clear hz ww1 HNO
            go_wp2_with fail
            go_loopw [9] (fun qv wr => ∃ q : Nat, z ≤ q ∧ q ≤ s.size ∧ qv = .int .i64 (q : Nat) ∧ Hid (scP s dgB q = scP s dgB z) ∧ w3 = wr) (fun qv _ => s.size - (intOf qv).toNat)
            case atStart => exact ⟨z, Nat.le_refl _, HZL.out, rfl, rfl, rfl⟩
            case round =>
              obtain ⟨q, hq1, hq2, rfl, HQ, rfl⟩ := hrel
              by_cases hqs : q < s.size
              · have p1 : decide ((q : Int) < (s.size : Int)) = true := decide_eq_true (by omega)
                have p2 : decide (q < s.size) = true := decide_eq_true hqs
                have w1q : IntKind.i64.wrap ((q : Int) + 1) = (q : Int) + 1 := i64_s _ (by omega) (by have := HSZ.out; omega)
                have HQS : Hid (q < s.size ∧ z ≤ q) := ⟨hqs, hq1⟩
                clear hqs hq1 hq2
                cases hb : dgB (sB s q) with
                | true =>
                  have HB : Hid (dgB (sB s q) = true) := hb
                  clear hb
                  go_wp2_with (refine wpList_sB (.tmp 57) (.tmp 58) rfl s q _ rfl rfl rfl HQS.out.1 rfl ?_)
                  refine (digit_any (sB s q) w3).mono ?_
                  rintro e1 wz ⟨rfl, rfl⟩
                  rw [HB.out]
                  go_wp2_with fail
                  go_roundw
                  case rel => exact ⟨q + 1, by have := HQS.out; omega, HQS.out.1, by simp, by show _ = _; rw [← scP_step HQS.out.1 HB.out]; exact HQ.out, by first | rfl | trivial⟩
                  case measure => have := HQS.out; simp [intOf]; omega
                | false =>
                  have HB : Hid (dgB (sB s q) = false) := hb
                  have HQE : Hid (scP s dgB z = q ∧ z ≤ q ∧ q ≤ s.size) := ⟨by rw [← HQ.out]; exact scP_stop (by rw [hb]; simp), by have := HQS.out; omega, by have := HQS.out; omega⟩
                  clear hb
                  go_wp2_with (refine wpList_sB (.tmp 57) (.tmp 58) rfl s q _ rfl rfl rfl HQS.out.1 rfl ?_)
                  refine (digit_any (sB s q) w3).mono ?_
                  rintro e1 wz ⟨rfl, rfl⟩
                  rw [HB.out]
                  clear p1 p2 w1q HQ
                  by_cases hqz : q = z
                  · have e1 : ((q : Int) == (z : Int)) = true := by rw [hqz]; simp
                    have e2 : (q == z) = true := by rw [hqz]; simp
                    have HF : Hid (pPF s = .inr ((hrE s q).1, (hrE s q).2)) := by
                      show pPF s = .inr ((hrE s q).1, (hrE s q).2)
                      rw [HP2.out, hqz]
                      unfold pPF2
                      rw [HZ.out, if_pos (by rw [HQE.out.1]; exact hqz)]
                      have e : (hrE s z).2 = z := by unfold hrE; have := HZL.out; split <;> (try rfl); show s.size = z; omega
                      rw [e]
                    clear hqz
                    go_wp2_with fail
                    refine (here_any s q w3).mono ?_
                    rintro e1 wz ⟨rfl, rfl⟩
                    go_wp2_with (first | (refine wpList_store_pfx (.tmp 2) (.tmp 74) rfl rfl I pz pz rfl rfl H3.out.1 rfl ?_))
                    intro wE hE kE
                    have HE : Hid (PfxAt wE I pz ∧ Below w.heap.size w wE) := ⟨hE, H3.out.2.2.trans (kE.below (fun q hq => by have h' : q = I := hq; have := HOI.out; omega) H3.out.2.2.size)⟩
                    clear hE kE
                    go_wp2_with fail
                    refine bodyPost_ret (results_pf3 rfl _ _ I _ rfl HE.out.1) rfl ?_
                    exact ⟨by rw [HF.out]; rfl, HE.out.2⟩
                  · have e1 : ((q : Int) == (z : Int)) = false := by simp; omega
                    have e2 : (q == z) = false := by simp [hqz]
                    have HNZ : Hid (scP s dgB z ≠ z) := by show scP s dgB z ≠ z; rw [HQE.out.1]; exact hqz
                    clear hqz
                    go_wp2_with (refine wpList_load_ipr (.tmp 6) rfl D V x rfl H3.out.2.1 rfl ?_)
                    refine (width_any V x w3).mono ?_
                    rintro e3 w4 ⟨rfl, b4⟩
                    have H4 : Hid (PfxAt w4 I pz ∧ IprAt w4 D V x ∧ Below w.heap.size w w4) := ⟨H3.out.1.below b4, H3.out.2.1.below b4, bthen H3.out.2.2 b4⟩
                    clear b4
                    go_wp2_with fail
                    refine (decimal_any s z q (wdN V) w4 HQE.out.2.1 HQE.out.2.2 (by have := HSZ.out; omega) (fun j hj => scP_all (p := z) (by omega) (by rw [HQE.out.1]; omega))).mono ?_
                    rintro e3 wz ⟨rfl, rfl⟩
                    have hdl := dcm_le (s := s) (p := z) (q := q) (most := wdN V)
                    obtain ⟨d, hd⟩ : ∃ d, dcm s z q (wdN V) = d := ⟨_, rfl⟩
                    have HD : Hid (dcm s z q (bitV V) = d ∧ d ≤ (bitV V : Int)) := ⟨by rw [← wd_bit]; exact hd, by rw [← wd_bit, ← hd]; exact hdl⟩
                    rw [hd]
                    clear hd hdl
                    by_cases hdn : d < 0
                    · have f1 : decide (d < 0) = true := decide_eq_true hdn
                      have HF : Hid (pPF s = .inr (45, z)) := by
                        show pPF s = .inr (45, z)
                        rw [HP2.out]
                        unfold pPF2
                        rw [HZ.out, if_neg HNZ.out, HQE.out.1, HD.out.1, if_pos hdn]
                      go_wp2_with (first | (refine wpList_store_pfx (.tmp 2) (.tmp 86) rfl rfl I pz pz rfl rfl H4.out.1 rfl ?_))
                      intro wE hE kE
                      have HE : Hid (PfxAt wE I pz ∧ Below w.heap.size w wE) := ⟨hE, H4.out.2.2.trans (kE.below (fun q hq => by have h' : q = I := hq; have := HOI.out; omega) H4.out.2.2.size)⟩
                      clear hE kE
                      go_wp2_with fail
                      refine bodyPost_ret (results_pf3 rfl _ _ I _ rfl HE.out.1) rfl ?_
                      exact ⟨by rw [HF.out]; rfl, HE.out.2⟩
                    · have f1 : decide (d < 0) = false := decide_eq_false hdn
                      obtain ⟨n, hn⟩ : ∃ n : Nat, d = (n : Int) := ⟨d.toNat, by omega⟩
                      subst hn
                      by_cases hql : q < s.size
                      · have p4 : decide ((q : Int) < (s.size : Int)) = true := decide_eq_true (by omega)
                        have p5 : decide (q < s.size) = true := decide_eq_true hql
                        have p6 : (q : Int) < (s.size : Int) := by omega
                        have HF : Hid (pPF s = .inr (41, q)) := by
                          show pPF s = .inr (41, q)
                          rw [HP2.out]
                          unfold pPF2
                          rw [HZ.out, if_neg HNZ.out, HQE.out.1, HD.out.1, if_neg hdn, if_pos (by omega)]
                        clear hql
                        go_wp2_with (first | (refine wpList_store_pfx (.tmp 2) (.tmp 93) rfl rfl I pz pz rfl rfl H4.out.1 rfl ?_))
                        intro wE hE kE
                        have HE : Hid (PfxAt wE I pz ∧ Below w.heap.size w wE) := ⟨hE, H4.out.2.2.trans (kE.below (fun q hq => by have h' : q = I := hq; have := HOI.out; omega) H4.out.2.2.size)⟩
                        clear hE kE
                        go_wp2_with fail
                        refine bodyPost_ret (results_pf3 rfl _ _ I _ rfl HE.out.1) rfl ?_
                        exact ⟨by rw [HF.out]; rfl, HE.out.2⟩
                      · have p4 : decide ((q : Int) < (s.size : Int)) = false := decide_eq_false (by omega)
                        have p5 : decide (q < s.size) = false := decide_eq_false hql
                        have p6 : ¬ (q : Int) < (s.size : Int) := by omega
                        have HF : Hid (pPF s = if vpE ⟨V, x, (n : Int)⟩ ≠ 0 then .inr (vpE ⟨V, x, (n : Int)⟩, 0) else .inl ⟨V, x, (n : Int)⟩) := by
                          show pPF s = _
                          rw [HP2.out]
                          unfold pPF2
                          rw [HZ.out, if_neg HNZ.out, HQE.out.1, HD.out.1, if_neg hdn, if_neg (by have := HQE.out; omega)]
                        clear hql hdn
                        obtain ⟨w5, hw5⟩ : ∃ w5, w5 = w4.alloc (.cells (pfC pz) 38) := ⟨_, rfl⟩
                        have l5 : Below w4.heap.size w4 w5 := by rw [hw5]; exact (Below.refl _ _).alloc (Nat.le_refl _) _
                        have a5 := pfx_new w4 pz
                        rw [← hw5] at a5
                        obtain ⟨E, hE⟩ : ∃ E, w4.heap.size = E := ⟨_, rfl⟩
                        rw [hE] at a5
                        have HOE : Hid (w4.heap.size = E) := hE
                        have HW5 : Hid (w4.alloc (.cells (pfC pz) 38) = w5) := hw5.symm
                        have H5 : Hid (PfxAt w5 I pz ∧ PfxAt w5 E pz ∧ Below w.heap.size w w5 ∧ I < E) := ⟨H4.out.1.below l5, a5, bthen H4.out.2.2 l5, by rw [← hE]; exact H4.out.1.lt⟩
                        clear hw5 l5 a5 hE
                        go_wp2_with (first | (refine wpList_load_ipr (.tmp 6) rfl D V x rfl H4.out.2.1 rfl ?_) | (refine wpList_pfx2 (.tmp 95) (.tmp 96) rfl V x (n : Nat) rfl rfl rfl ?_) | (refine wpList_alloc_pfx rfl rfl ?_; rw [HW5.out, HOE.out]) | (refine wpList_store_pfx (.tmp 13) (.tmp 97) rfl rfl E pz ⟨V, x, (n : Nat)⟩ rfl rfl H5.out.2.1 rfl ?_))
                        intro w6 h6 k6
                        have H6 : Hid (PfxAt w6 I pz ∧ PfxAt w6 E ⟨V, x, (n : Nat)⟩ ∧ Below w.heap.size w w6) := ⟨H5.out.1.ch k6 (by have := H5.out.2.2.2; omega), h6, H5.out.2.2.1.trans (k6.below (fun q hq => by have h1 := H5.out.2.2.2; have h2 := HOI.out; omega) H5.out.2.2.1.size)⟩
                        clear h6 k6
                        go_wp2_with (first | (refine wpList_load_pfx (.tmp 13) rfl E ⟨V, x, (n : Nat)⟩ rfl H6.out.2.1 rfl ?_))
                        refine (validPrefixR_any ⟨V, x, (n : Nat)⟩ w6 HV.out.2).mono ?_
                        rintro e3 w7 ⟨rfl, b7⟩
                        rw [← vp_alike ⟨V, x, (n : Nat)⟩ HV.out.2]
                        have H7 : Hid (PfxAt w7 I pz ∧ PfxAt w7 E ⟨V, x, (n : Nat)⟩ ∧ Below w.heap.size w w7) := ⟨H6.out.1.below b7, H6.out.2.1.below b7, bthen H6.out.2.2 b7⟩
                        clear b7
                        by_cases hvp : vpE ⟨V, x, (n : Int)⟩ = 0
                        · have HG : Hid (pPF s = .inl ⟨V, x, (n : Int)⟩) := by show pPF s = _; rw [HF.out, if_neg (by simp [hvp])]
                          rw [hvp]
                          clear hvp
                          go_wp2_with (first | (refine wpList_load_pfx (.tmp 13) rfl E ⟨V, x, (n : Nat)⟩ rfl H7.out.2.1 rfl ?_) | (refine wpList_store_pfx (.tmp 2) (.tmp 102) rfl rfl I pz ⟨V, x, (n : Nat)⟩ rfl rfl H7.out.1 rfl ?_))
                          intro wE hE kE
                          have HE : Hid (PfxAt wE I ⟨V, x, (n : Nat)⟩ ∧ Below w.heap.size w wE) := ⟨hE, H7.out.2.2.trans (kE.below (fun q hq => by have h' : q = I := hq; have := HOI.out; omega) H7.out.2.2.size)⟩
                          clear hE kE
                          go_wp2_with fail
                          refine bodyPost_ret (results_pf3 rfl _ _ I _ rfl HE.out.1) rfl ?_
                          exact ⟨by rw [HG.out]; rfl, HE.out.2⟩
                        · have h46 := vp_46 HV.out.1 (by omega) HD.out.2 hvp
                          have HG : Hid (pPF s = .inr (46, 0)) := by show pPF s = _; rw [HF.out, if_pos hvp, h46]
                          rw [h46]
                          clear hvp h46
                          go_wp2_with (first | (refine wpList_store_pfx (.tmp 2) (.tmp 101) rfl rfl I pz pz rfl rfl H7.out.1 rfl ?_))
                          intro wE hE kE
                          have HE : Hid (PfxAt wE I pz ∧ Below w.heap.size w wE) := ⟨hE, H7.out.2.2.trans (kE.below (fun q hq => by have h' : q = I := hq; have := HOI.out; omega) H7.out.2.2.size)⟩
                          clear hE kE
                          go_wp2_with fail
                          refine bodyPost_ret (results_pf3 rfl _ _ I _ rfl HE.out.1) rfl ?_
                          exact ⟨by rw [HG.out]; rfl, HE.out.2⟩
              · have p1 : decide ((q : Int) < (s.size : Int)) = false := decide_eq_false (by omega)
                have p2 : decide (q < s.size) = false := decide_eq_false hqs
                have p3 : ¬ (q : Int) < (s.size : Int) := by omega
                have HQE : Hid (scP s dgB z = q ∧ z ≤ q ∧ q ≤ s.size) := ⟨by rw [← HQ.out]; exact scP_stop (by rw [p2]; simp), hq1, hq2⟩
                clear hqs hq1 hq2 HQ
                by_cases hqz : q = z
                · have e1 : ((q : Int) == (z : Int)) = true := by rw [hqz]; simp
                  have e2 : (q == z) = true := by rw [hqz]; simp
                  have HF : Hid (pPF s = .inr ((hrE s q).1, (hrE s q).2)) := by
                    show pPF s = .inr ((hrE s q).1, (hrE s q).2)
                    rw [HP2.out, hqz]
                    unfold pPF2
                    rw [HZ.out, if_pos (by rw [HQE.out.1]; exact hqz)]
                    have e : (hrE s z).2 = z := by unfold hrE; have := HZL.out; split <;> (try rfl); show s.size = z; omega
                    rw [e]
                  clear hqz
                  go_wp2_with fail
                  refine (here_any s q w3).mono ?_
                  rintro e1 wz ⟨rfl, rfl⟩
                  go_wp2_with (first | (refine wpList_store_pfx (.tmp 2) (.tmp 74) rfl rfl I pz pz rfl rfl H3.out.1 rfl ?_))
                  intro wE hE kE
                  have HE : Hid (PfxAt wE I pz ∧ Below w.heap.size w wE) := ⟨hE, H3.out.2.2.trans (kE.below (fun q hq => by have h' : q = I := hq; have := HOI.out; omega) H3.out.2.2.size)⟩
                  clear hE kE
                  go_wp2_with fail
                  refine bodyPost_ret (results_pf3 rfl _ _ I _ rfl HE.out.1) rfl ?_
                  exact ⟨by rw [HF.out]; rfl, HE.out.2⟩
                · have e1 : ((q : Int) == (z : Int)) = false := by simp; omega
                  have e2 : (q == z) = false := by simp [hqz]
                  have HNZ : Hid (scP s dgB z ≠ z) := by show scP s dgB z ≠ z; rw [HQE.out.1]; exact hqz
                  clear hqz
                  go_wp2_with (refine wpList_load_ipr (.tmp 6) rfl D V x rfl H3.out.2.1 rfl ?_)
                  refine (width_any V x w3).mono ?_
                  rintro e3 w4 ⟨rfl, b4⟩
                  have H4 : Hid (PfxAt w4 I pz ∧ IprAt w4 D V x ∧ Below w.heap.size w w4) := ⟨H3.out.1.below b4, H3.out.2.1.below b4, bthen H3.out.2.2 b4⟩
                  clear b4
                  go_wp2_with fail
                  refine (decimal_any s z q (wdN V) w4 HQE.out.2.1 HQE.out.2.2 (by have := HSZ.out; omega) (fun j hj => scP_all (p := z) (by omega) (by rw [HQE.out.1]; omega))).mono ?_
                  rintro e3 wz ⟨rfl, rfl⟩
                  have hdl := dcm_le (s := s) (p := z) (q := q) (most := wdN V)
                  obtain ⟨d, hd⟩ : ∃ d, dcm s z q (wdN V) = d := ⟨_, rfl⟩
                  have HD : Hid (dcm s z q (bitV V) = d ∧ d ≤ (bitV V : Int)) := ⟨by rw [← wd_bit]; exact hd, by rw [← wd_bit, ← hd]; exact hdl⟩
                  rw [hd]
                  clear hd hdl
                  by_cases hdn : d < 0
                  · have f1 : decide (d < 0) = true := decide_eq_true hdn
                    have HF : Hid (pPF s = .inr (45, z)) := by
                      show pPF s = .inr (45, z)
                      rw [HP2.out]
                      unfold pPF2
                      rw [HZ.out, if_neg HNZ.out, HQE.out.1, HD.out.1, if_pos hdn]
                    go_wp2_with (first | (refine wpList_store_pfx (.tmp 2) (.tmp 86) rfl rfl I pz pz rfl rfl H4.out.1 rfl ?_))
                    intro wE hE kE
                    have HE : Hid (PfxAt wE I pz ∧ Below w.heap.size w wE) := ⟨hE, H4.out.2.2.trans (kE.below (fun q hq => by have h' : q = I := hq; have := HOI.out; omega) H4.out.2.2.size)⟩
                    clear hE kE
                    go_wp2_with fail
                    refine bodyPost_ret (results_pf3 rfl _ _ I _ rfl HE.out.1) rfl ?_
                    exact ⟨by rw [HF.out]; rfl, HE.out.2⟩
                  · have f1 : decide (d < 0) = false := decide_eq_false hdn
                    obtain ⟨n, hn⟩ : ∃ n : Nat, d = (n : Int) := ⟨d.toNat, by omega⟩
                    subst hn
                    by_cases hql : q < s.size
                    · have p4 : decide ((q : Int) < (s.size : Int)) = true := decide_eq_true (by omega)
                      have p5 : decide (q < s.size) = true := decide_eq_true hql
                      have p6 : (q : Int) < (s.size : Int) := by omega
                      have HF : Hid (pPF s = .inr (41, q)) := by
                        show pPF s = .inr (41, q)
                        rw [HP2.out]
                        unfold pPF2
                        rw [HZ.out, if_neg HNZ.out, HQE.out.1, HD.out.1, if_neg hdn, if_pos (by omega)]
                      clear hql
                      go_wp2_with (first | (refine wpList_store_pfx (.tmp 2) (.tmp 93) rfl rfl I pz pz rfl rfl H4.out.1 rfl ?_))
                      intro wE hE kE
                      have HE : Hid (PfxAt wE I pz ∧ Below w.heap.size w wE) := ⟨hE, H4.out.2.2.trans (kE.below (fun q hq => by have h' : q = I := hq; have := HOI.out; omega) H4.out.2.2.size)⟩
                      clear hE kE
                      go_wp2_with fail
                      refine bodyPost_ret (results_pf3 rfl _ _ I _ rfl HE.out.1) rfl ?_
                      exact ⟨by rw [HF.out]; rfl, HE.out.2⟩
                    · have p4 : decide ((q : Int) < (s.size : Int)) = false := decide_eq_false (by omega)
                      have p5 : decide (q < s.size) = false := decide_eq_false hql
                      have p6 : ¬ (q : Int) < (s.size : Int) := by omega
                      have HF : Hid (pPF s = if vpE ⟨V, x, (n : Int)⟩ ≠ 0 then .inr (vpE ⟨V, x, (n : Int)⟩, 0) else .inl ⟨V, x, (n : Int)⟩) := by
                        show pPF s = _
                        rw [HP2.out]
                        unfold pPF2
                        rw [HZ.out, if_neg HNZ.out, HQE.out.1, HD.out.1, if_neg hdn, if_neg (by have := HQE.out; omega)]
                      clear hql hdn
                      obtain ⟨w5, hw5⟩ : ∃ w5, w5 = w4.alloc (.cells (pfC pz) 38) := ⟨_, rfl⟩
                      have l5 : Below w4.heap.size w4 w5 := by rw [hw5]; exact (Below.refl _ _).alloc (Nat.le_refl _) _
                      have a5 := pfx_new w4 pz
                      rw [← hw5] at a5
                      obtain ⟨E, hE⟩ : ∃ E, w4.heap.size = E := ⟨_, rfl⟩
                      rw [hE] at a5
                      have HOE : Hid (w4.heap.size = E) := hE
                      have HW5 : Hid (w4.alloc (.cells (pfC pz) 38) = w5) := hw5.symm
                      have H5 : Hid (PfxAt w5 I pz ∧ PfxAt w5 E pz ∧ Below w.heap.size w w5 ∧ I < E) := ⟨H4.out.1.below l5, a5, bthen H4.out.2.2 l5, by rw [← hE]; exact H4.out.1.lt⟩
                      clear hw5 l5 a5 hE
                      go_wp2_with (first | (refine wpList_load_ipr (.tmp 6) rfl D V x rfl H4.out.2.1 rfl ?_) | (refine wpList_pfx2 (.tmp 95) (.tmp 96) rfl V x (n : Nat) rfl rfl rfl ?_) | (refine wpList_alloc_pfx rfl rfl ?_; rw [HW5.out, HOE.out]) | (refine wpList_store_pfx (.tmp 13) (.tmp 97) rfl rfl E pz ⟨V, x, (n : Nat)⟩ rfl rfl H5.out.2.1 rfl ?_))
                      intro w6 h6 k6
                      have H6 : Hid (PfxAt w6 I pz ∧ PfxAt w6 E ⟨V, x, (n : Nat)⟩ ∧ Below w.heap.size w w6) := ⟨H5.out.1.ch k6 (by have := H5.out.2.2.2; omega), h6, H5.out.2.2.1.trans (k6.below (fun q hq => by have h1 := H5.out.2.2.2; have h2 := HOI.out; omega) H5.out.2.2.1.size)⟩
                      clear h6 k6
                      go_wp2_with (first | (refine wpList_load_pfx (.tmp 13) rfl E ⟨V, x, (n : Nat)⟩ rfl H6.out.2.1 rfl ?_))
                      refine (validPrefixR_any ⟨V, x, (n : Nat)⟩ w6 HV.out.2).mono ?_
                      rintro e3 w7 ⟨rfl, b7⟩
                      rw [← vp_alike ⟨V, x, (n : Nat)⟩ HV.out.2]
                      have H7 : Hid (PfxAt w7 I pz ∧ PfxAt w7 E ⟨V, x, (n : Nat)⟩ ∧ Below w.heap.size w w7) := ⟨H6.out.1.below b7, H6.out.2.1.below b7, bthen H6.out.2.2 b7⟩
                      clear b7
                      by_cases hvp : vpE ⟨V, x, (n : Int)⟩ = 0
                      · have HG : Hid (pPF s = .inl ⟨V, x, (n : Int)⟩) := by show pPF s = _; rw [HF.out, if_neg (by simp [hvp])]
                        rw [hvp]
                        clear hvp
                        go_wp2_with (first | (refine wpList_load_pfx (.tmp 13) rfl E ⟨V, x, (n : Nat)⟩ rfl H7.out.2.1 rfl ?_) | (refine wpList_store_pfx (.tmp 2) (.tmp 102) rfl rfl I pz ⟨V, x, (n : Nat)⟩ rfl rfl H7.out.1 rfl ?_))
                        intro wE hE kE
                        have HE : Hid (PfxAt wE I ⟨V, x, (n : Nat)⟩ ∧ Below w.heap.size w wE) := ⟨hE, H7.out.2.2.trans (kE.below (fun q hq => by have h' : q = I := hq; have := HOI.out; omega) H7.out.2.2.size)⟩
                        clear hE kE
                        go_wp2_with fail
                        refine bodyPost_ret (results_pf3 rfl _ _ I _ rfl HE.out.1) rfl ?_
                        exact ⟨by rw [HG.out]; rfl, HE.out.2⟩
                      · have h46 := vp_46 HV.out.1 (by omega) HD.out.2 hvp
                        have HG : Hid (pPF s = .inr (46, 0)) := by show pPF s = _; rw [HF.out, if_pos hvp, h46]
                        rw [h46]
                        clear hvp h46
                        go_wp2_with (first | (refine wpList_store_pfx (.tmp 2) (.tmp 101) rfl rfl I pz pz rfl rfl H7.out.1 rfl ?_))
                        intro wE hE kE
                        have HE : Hid (PfxAt wE I pz ∧ Below w.heap.size w wE) := ⟨hE, H7.out.2.2.trans (kE.below (fun q hq => by have h' : q = I := hq; have := HOI.out; omega) H7.out.2.2.size)⟩
                        clear hE kE
                        go_wp2_with fail
                        refine bodyPost_ret (results_pf3 rfl _ _ I _ rfl HE.out.1) rfl ?_
                        exact ⟨by rw [HG.out]; rfl, HE.out.2⟩
        · have n1 : (((sB s i : Nat) : Int) != 47) = true := by simp; omega
          have n2 : ¬ ((sB s i : Nat) : Int) = 47 := by omega
          have HN47 : Hid (sB s i ≠ 47) := h47
          clear h47
          go_wp2_with (refine wpList_sB (.tmp 23) (.tmp 24) rfl s i _ rfl rfl rfl HIS.out rfl ?_)
          go_roundw
          case rel => exact ⟨i + 1, HIS.out, by simp, fun j hj => if h : j = i then by rw [h]; exact HN47.out else HNO.out j (by omega), by first | rfl | trivial⟩
          case measure => have := HIS.out; simp [intOf]; omega
      · obtain rfl : i = s.size := by omega
        have p1 : decide ((s.size : Int) < (s.size : Int)) = false := decide_eq_false (by omega)
        have p2 : decide (s.size < s.size) = false := decide_eq_false (by omega)
        have HF : Hid (pPF s = .inr (42, s.size)) := by show pPF s = _; unfold pPF; rw [if_neg (by have := HSZ.out; omega), sl_none HNO.out, if_pos (by decide)]
        clear his hi HNO
        go_wp2_with (first | (refine wpList_store_pfx (.tmp 2) (.tmp 34) rfl rfl I pz pz rfl rfl HNI.out rfl ?_))
        intro wE hE kE
        have HE : Hid (PfxAt wE I pz ∧ Below w.heap.size w wE) := ⟨hE, HLI.out.trans (kE.below (fun q hq => by have h' : q = I := hq; have := HOI.out; omega) HLI.out.size)⟩
        clear hE kE
        go_wp2_with fail
        refine bodyPost_ret (results_pf3 rfl _ _ I _ rfl HE.out.1) rfl ?_
        exact ⟨by rw [HF.out]; rfl, HE.out.2⟩
end Go.Proofs.YteldiggaooeeeaaGreatDoor
