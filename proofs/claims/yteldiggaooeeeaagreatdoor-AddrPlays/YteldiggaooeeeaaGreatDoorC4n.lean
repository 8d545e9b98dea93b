/-
  weirref4: ParseMac of any text.
-/
import Derived.Test.YteldiggaooeeeaaGreatDoorC4m
import Derived.Test.YteldiggaooeeeaaGreatDoorB4u
import Derived.Test.YteldiggaooeeeaaGreatDoorZy
namespace Go.Proofs.YteldiggaooeeeaaGreatDoor
open Go.RowKit Go.Maps

/-- what ParseMac has still to answer at the place i -/
def rst (s : ByteArray) (i : Nat) (m : Nat → Nat) : Sum (Nat → Nat) (Nat × Nat) :=
  if i % 3 = 2 then mcB s (5 - i / 3) (i / 3 + 1) i m else
  match mcN s (2 - i % 3) (i / 3) i m with
  | .inr e => .inr e
  | .inl (q, m') => mcB s (5 - i / 3) (i / 3 + 1) q m'
theorem rst_0 (s : ByteArray) (m : Nat → Nat) : mcB s 6 0 0 m = rst s 0 m := by
  unfold rst
  rw [if_neg (by decide)]
  rw [mcB, if_neg (by omega)]
  rfl
theorem rst_end (s : ByteArray) (m : Nat → Nat) : rst s 17 m = .inl m := by
  unfold rst
  rw [if_pos (by decide)]
  rfl
theorem wth_dgV {c : Nat} (h : c < 256) : (wth c < 0 ∧ 16 ≤ dgV c) ∨ (wth c = (dgV c : Int) ∧ dgV c < 16) := by
  have : ∀ k : Fin 256, (wth k.val < 0 ∧ 16 ≤ dgV k.val) ∨ (wth k.val = (dgV k.val : Int) ∧ dgV k.val < 16) := by decide +kernel
  exact this ⟨c, h⟩
theorem rst_no {s : ByteArray} {i : Nat} {m : Nat → Nat} (hi : i < 17) (h : s.size ≤ i ∨ (i % 3 = 2 ∧ sB s i ≠ 58) ∨ (i % 3 ≠ 2 ∧ wth (sB s i) < 0)) : rst s i m = .inr (hrE s i) := by
  unfold rst
  by_cases h3 : i % 3 = 2
  · rw [if_pos h3, show 5 - i / 3 = (4 - i / 3) + 1 by omega]
    exact mcB_no ⟨by omega, by rcases h with h | h | h <;> omega⟩
  · rw [if_neg h3, show 2 - i % 3 = (1 - i % 3) + 1 by omega, mcN_no (by
      rcases h with h | h | h
      · exact .inl h
      · omega
      · rcases wth_dgV (sB_lt s i) with h1 | h1
        · exact .inr h1.2
        · omega)]
theorem rst_col {s : ByteArray} {i : Nat} {m : Nat → Nat} (hi : i < 17) (h3 : i % 3 = 2) (hs : i < s.size) (hc : sB s i = 58) : rst s i m = rst s (i + 1) m := by
  unfold rst
  rw [if_pos h3, if_neg (by omega), show 5 - i / 3 = (4 - i / 3) + 1 by omega, mcB, if_neg (by omega), if_pos (by omega), show i / 3 + 1 = (i + 1) / 3 by omega, show (2 : Nat) - (i + 1) % 3 = 2 by omega, show 4 - i / 3 = 5 - (i + 1) / 3 by omega]
  rfl
theorem rst_dig {s : ByteArray} {i : Nat} {m : Nat → Nat} (_hi : i < 17) (h3 : i % 3 ≠ 2) (hs : i < s.size) (hd : 0 ≤ wth (sB s i)) : rst s i m = rst s (i + 1) (up1 m (i / 3) ((16 * m (i / 3) + dgV (sB s i)) % 256)) := by
  have hw : ¬ (s.size ≤ i ∨ 16 ≤ dgV (sB s i)) := by
    rcases wth_dgV (sB_lt s i) with h1 | h1 <;> omega
  unfold rst
  rw [if_neg h3, show 2 - i % 3 = (1 - i % 3) + 1 by omega, mcN_step hw]
  by_cases h1 : i % 3 = 1
  · rw [if_pos (by omega), h1, show i / 3 = (i + 1) / 3 by omega]
    rfl
  · rw [if_neg (by omega), show 1 - i % 3 = 2 - (i + 1) % 3 by omega, show i / 3 = (i + 1) / 3 by omega]
theorem mac_put (m : Nat → Nat) (i v : Nat) (h : i < 6) : (macC m).setIfInBounds i (.int .u8 (v : Nat)) = macC (up1 m i v) := by
  rcases (show i = 0 ∨ i = 1 ∨ i = 2 ∨ i = 3 ∨ i = 4 ∨ i = 5 by omega) with rfl | rfl | rfl | rfl | rfl | rfl <;> simp [macC, up1]
theorem MacAt.put {w : World} {O : Nat} {m : Nat → Nat} (h : MacAt w O m) (i v : Nat) (hi : i < 6) : MacAt (w.setCell ⟨O, i, none⟩ (.int .u8 (v : Nat))) O (up1 m i v) := by
  have k := heap_setCell_same w O i _ _ (.int .u8 (v : Nat)) h
  rw [mac_put m i v hi] at k
  exact k
theorem MacAt.byte {w : World} {O : Nat} {m : Nat → Nat} (h : MacAt w O m) (i : Nat) (hi : i < 6) : w.cell? ⟨O, i, none⟩ = some (.int .u8 (m i : Nat)) := by
  rw [h.cell i]
  rcases (show i = 0 ∨ i = 1 ∨ i = 2 ∨ i = 3 ∨ i = 4 ∨ i = 5 by omega) with rfl | rfl | rfl | rfl | rfl | rfl <;> rfl
set_option maxHeartbeats 4000000 in
set_option maxRecDepth 100000 in
theorem parseMacR_any (s : ByteArray) (w : World) : Calls Tryz.prog 46 #[.string s] w fun r w' => r = .returned (mcO (pMC s)) ∧ Below w.heap.size w w' := by

  by_cases hbig : 17 < s.size
  · have HF : Hid (pMC s = .inr (2, 17)) := by show pMC s = _; unfold pMC; rw [if_pos hbig]
    have q1 : decide ((17 : Int) < (s.size : Int)) = true := decide_eq_true (by omega)
    have q2 : decide (17 < s.size) = true := decide_eq_true hbig
    have q3 : (17 : Int) < (s.size : Int) := by omega
    clear hbig
    go_enter Tryz.func46, Tryz.ntmps46
    go_wp2_with (refine wpList_nil_macN rfl rfl ?_)
    intro B W1 HB1 hB bB
    have HBM : Hid (w.heap.size ≤ B) := by have := HB1.out; show w.heap.size ≤ B; omega
    have HM : Hid (MacAt W1 B mz ∧ Below w.heap.size w W1) := ⟨hB, bB⟩
    clear hB bB HB1
    go_wp2_with (first | (refine wpList_store_mac (.tmp 2) (.tmp 10) rfl rfl B mz mz rfl rfl HM.out.1 rfl ?_))
    intro wE hE kE
    have HE : Hid (MacAt wE B mz ∧ Below w.heap.size w wE) := ⟨hE, HM.out.2.trans (kE.below (fun q hq => by have h' : q = B := hq; have := HBM.out; omega) HM.out.2.size)⟩
    clear hE kE
    go_wp2_with fail
    (try simp only [Exit.inBlock, Exit.then])
    refine bodyPost_ret (results_mac_tmp2 rfl _ _ B _ rfl HE.out.1) rfl ?_
    exact ⟨by rw [HF.out]; rfl, HE.out.2⟩
  · have HSZ : Hid (s.size ≤ 17) := by show s.size ≤ 17; omega
    have q1 : decide ((17 : Int) < (s.size : Int)) = false := decide_eq_false (by omega)
    have q2 : decide (17 < s.size) = false := decide_eq_false hbig
    have q3 : ¬ (17 : Int) < (s.size : Int) := by omega
    have HP0 : Hid (pMC s = rst s 0 mz) := by show pMC s = rst s 0 mz; unfold pMC; rw [if_neg hbig]; exact rst_0 s mz
    clear hbig
    go_enter Tryz.func46, Tryz.ntmps46
    go_wp2_with (refine wpList_nil_macN rfl rfl ?_)
    intro B W1 HB1 hB bB
    go_wp2_with (refine wpList_nil_macN rfl rfl ?_)
    intro M W2 HM1 hM bM
    have HBM : Hid (w.heap.size ≤ B ∧ B < M) := ⟨by have := HB1.out; omega, by have := HB1.out; have := HM1.out; omega⟩
    have H2 : Hid (MacAt W2 M mz ∧ MacAt W2 B mz ∧ Below w.heap.size w W2) := ⟨hM, hB.below bM, bthen bB bM⟩
    clear hB bB HB1 hM bM HM1
    go_wp2
    go_loopw [6] (fun iv wr => ∃ (i : Nat) (m : Nat → Nat), i ≤ 17 ∧ i ≤ s.size ∧ iv = .int .i64 (i : Nat) ∧ Hid (pMC s = rst s i m ∧ ∀ k, k < 6 → m k < 256) ∧ Hid (MacAt wr M m ∧ MacAt wr B mz ∧ Below w.heap.size w wr)) (fun iv _ => 17 - (intOf iv).toNat)
    case atStart => exact ⟨0, mz, by omega, Nat.zero_le _, rfl, ⟨HP0.out, fun k _ => by show 0 < 256; omega⟩, H2.out⟩
    case round =>
      obtain ⟨i, m, hi, his, rfl, HI, HM⟩ := hrel
      by_cases h17 : i < 17
      · have HI17 : Hid (i < 17) := h17
        have p1 : decide ((i : Int) < 17) = true := decide_eq_true (by omega)
        have p2 : (i : Int) < 17 := by omega
        have z3 : IntKind.i64.wrap ((i : Int) + 1) = (i : Int) + 1 := i64_s _ (by omega) (by omega)
        by_cases hsz : i = s.size
        · have HF : Hid (pMC s = .inr (42, i)) := by
            show pMC s = .inr (42, i)
            rw [HI.out.1, rst_no h17 (.inl (by omega))]
            unfold hrE
            rw [if_pos (by omega), hsz]
          have e1 : ((i : Int) == (s.size : Int)) = true := by simp [hsz]
          have e2 : (i == s.size) = true := by simp [hsz]
          clear h17 hi his hsz
          go_wp2_with (first | (refine wpList_store_mac (.tmp 2) (.tmp 19) rfl rfl B mz mz rfl rfl HM.out.2.1 rfl ?_))
          intro wE hE kE
          have HE : Hid (MacAt wE B mz ∧ Below w.heap.size w wE) := ⟨hE, HM.out.2.2.trans (kE.below (fun q hq => by have h' : q = B := hq; have := HBM.out; omega) HM.out.2.2.size)⟩
          clear hE kE
          go_wp2_with fail
          (try simp only [Exit.inBlock, Exit.then])
          refine bodyPost_ret (results_mac_tmp2 rfl _ _ B _ rfl HE.out.1) rfl ?_
          exact ⟨by rw [HF.out]; rfl, HE.out.2⟩
        · have HIS : Hid (i < s.size) := by show i < s.size; omega
          have e1 : ((i : Int) == (s.size : Int)) = false := by simp; omega
          have e2 : (i == s.size) = false := by simp [hsz]
          clear h17 hi his hsz
          obtain ⟨r, hr⟩ : ∃ r, i % 3 = r := ⟨_, rfl⟩
          have HR : Hid (i % 3 = r ∧ r < 3) := ⟨hr, by omega⟩
          have t1 : Int.tmod (i : Int) 3 = (r : Int) := by rw [Int.tmod_eq_emod_of_nonneg (by omega)]; omega
          have t1' : (i : Int) % 3 = (r : Int) := by omega
          have t2 : IntKind.i64.wrap (r : Int) = (r : Int) := i64_s _ (by omega) (by omega)
          obtain ⟨zz, hz⟩ : ∃ zz, wth (sB s i) = zz := ⟨_, rfl⟩
          have HZ : Hid (wth (sB s i) = zz) := hz
          obtain ⟨bad, hbad⟩ : ∃ bad : Bool, bad = if r = 2 then !(sB s i == 58) else decide (zz < 0) := ⟨_, rfl⟩
          have HBAD : Hid (bad = if r = 2 then !(sB s i == 58) else decide (zz < 0)) := hbad
          clear hr hz hbad
          go_upto_region 9 with fail
          go_cut [40] (fun u wx => u = .bool bad ∧ wr = wx)
          case first =>
            by_cases hr2 : r = 2
            · have f1 : ((r : Int) == 2) = true := by rw [hr2]; rfl
              have f2 : decide ((r : Int) < 2) = false := decide_eq_false (by omega)
              have f2' : ¬ (r : Int) < 2 := by omega
              by_cases h58 : sB s i = 58
              · have g1 : (((sB s i : Nat) : Int) == 58) = true := by simp; omega
                have HBD : Hid (bad = false) := by show bad = false; rw [HBAD.out, if_pos hr2, h58]; rfl
                clear hr2 h58
                go_wp2_with (first | (refine wpList_sB (.tmp 24) (.tmp 25) rfl s i _ rfl rfl rfl HIS.out rfl ?_) | (refine wpList_sB (.tmp 34) (.tmp 35) rfl s i _ rfl rfl rfl HIS.out rfl ?_))
                go_meet
                exact ⟨by rw [HBD.out], rfl⟩
              · have g1 : (((sB s i : Nat) : Int) == 58) = false := by simp; omega
                have HBD : Hid (bad = true) := by show bad = true; rw [HBAD.out, if_pos hr2]; simp [h58]
                clear hr2 h58
                go_wp2_with (first | (refine wpList_sB (.tmp 24) (.tmp 25) rfl s i _ rfl rfl rfl HIS.out rfl ?_) | (refine wpList_sB (.tmp 34) (.tmp 35) rfl s i _ rfl rfl rfl HIS.out rfl ?_))
                go_meet
                exact ⟨by rw [HBD.out], rfl⟩
            · have f1 : ((r : Int) == 2) = false := by simp; omega
              have f2 : decide ((r : Int) < 2) = true := decide_eq_true (by have := HR.out; omega)
              have f2' : (r : Int) < 2 := by have := HR.out; omega
              by_cases h58 : sB s i = 58
              · have g1 : (((sB s i : Nat) : Int) == 58) = true := by simp; omega
                have HBD : Hid (bad = true) := by
                  show bad = true
                  rw [HBAD.out, if_neg hr2, ← HZ.out, h58]
                  decide
                clear hr2 h58
                go_wp2_with (first | (refine wpList_sB (.tmp 24) (.tmp 25) rfl s i _ rfl rfl rfl HIS.out rfl ?_) | (refine wpList_sB (.tmp 34) (.tmp 35) rfl s i _ rfl rfl rfl HIS.out rfl ?_))
                go_meet
                exact ⟨by rw [HBD.out], rfl⟩
              · have g1 : (((sB s i : Nat) : Int) == 58) = false := by simp; omega
                have HBD : Hid (bad = decide (zz < 0)) := by show bad = decide (zz < 0); rw [HBAD.out, if_neg hr2]
                clear hr2 h58
                go_wp2_with (first | (refine wpList_sB (.tmp 24) (.tmp 25) rfl s i _ rfl rfl rfl HIS.out rfl ?_) | (refine wpList_sB (.tmp 34) (.tmp 35) rfl s i _ rfl rfl rfl HIS.out rfl ?_))
                refine (worth_any (sB s i) wr (sB_lt s i)).mono ?_
                rintro e1 wz ⟨rfl, rfl⟩
                rw [HZ.out]
                go_wp2_with fail
                go_meet
                exact ⟨by rw [HBD.out], rfl⟩
          case rest =>
            obtain ⟨rfl, rfl⟩ := hcut
            cases bad with
            | true =>
              have HF : Hid (pMC s = .inr (41, i)) := by
                show pMC s = .inr (41, i)
                have hb := HBAD.out
                rw [HI.out.1, rst_no HI17.out (.inr (by
                  have h1 := HR.out
                  by_cases hr2 : r = 2
                  · rw [if_pos hr2] at hb
                    exact .inl ⟨by omega, by simpa using hb.symm⟩
                  · rw [if_neg hr2] at hb
                    exact .inr ⟨by omega, by rw [HZ.out]; exact of_decide_eq_true hb.symm⟩))]
                unfold hrE
                rw [if_neg (by have := HIS.out; omega)]
              go_wp2_with (first | (refine wpList_store_mac (.tmp 2) (.tmp 41) rfl rfl B mz mz rfl rfl HM.out.2.1 rfl ?_))
              intro wE hE kE
              have HE : Hid (MacAt wE B mz ∧ Below w.heap.size w wE) := ⟨hE, HM.out.2.2.trans (kE.below (fun q hq => by have h' : q = B := hq; have := HBM.out; omega) HM.out.2.2.size)⟩
              clear hE kE
              go_wp2_with fail
              (try simp only [Exit.inBlock, Exit.then])
              refine bodyPost_ret (results_mac_tmp2 rfl _ _ B _ rfl HE.out.1) rfl ?_
              exact ⟨by rw [HF.out]; rfl, HE.out.2⟩
            | false =>
              by_cases hr2 : r = 2
              · have f2 : decide ((r : Int) < 2) = false := decide_eq_false (by omega)
                have f2' : ¬ (r : Int) < 2 := by omega
                have HN : Hid (pMC s = rst s (i + 1) m) := by
                  show pMC s = rst s (i + 1) m
                  rw [HI.out.1]
                  have hb := HBAD.out
                  rw [if_pos hr2] at hb
                  exact rst_col HI17.out (by rw [HR.out.1]; exact hr2) HIS.out (by simpa using hb.symm)
                clear hr2
                go_wp2
                go_roundw
                case rel => exact ⟨i + 1, m, HI17.out, HIS.out, by simp, ⟨HN.out, HI.out.2⟩, HM.out⟩
                case measure => have := HI17.out; simp [intOf]; omega
              · have f2 : decide ((r : Int) < 2) = true := decide_eq_true (by have := HR.out; omega)
                have f2' : (r : Int) < 2 := by have := HR.out; omega
                have hz0 : 0 ≤ wth (sB s i) := by
                  have hb := HBAD.out
                  rw [if_neg hr2, ← HZ.out] at hb
                  have := of_decide_eq_false hb.symm
                  omega
                obtain ⟨b, hb⟩ : ∃ b, i / 3 = b := ⟨_, rfl⟩
                obtain ⟨mb, hmb⟩ : ∃ mb, m b = mb := ⟨_, rfl⟩
                obtain ⟨d, hd⟩ : ∃ d, dgV (sB s i) = d := ⟨_, rfl⟩
                obtain ⟨v, hv⟩ : ∃ v, (16 * mb + d) % 256 = v := ⟨_, rfl⟩
                have HB6 : Hid (i / 3 = b ∧ b < 6) := ⟨hb, by have := HI17.out; omega⟩
                have HMB : Hid (m b = mb ∧ mb < 256) := ⟨hmb, by rw [← hmb]; exact HI.out.2 b HB6.out.2⟩
                have hd2 : wth (sB s i) = (d : Int) ∧ d < 16 := by
                  rcases wth_dgV (sB_lt s i) with h1 | h1
                  · omega
                  · rw [hd] at h1; exact h1
                have HDZ : Hid (wth (sB s i) = (d : Int)) := hd2.1
                have HD16 : Hid (d < 16 ∧ (16 * mb + d) % 256 = v) := ⟨hd2.2, hv⟩
                have HN : Hid (pMC s = rst s (i + 1) (up1 m b v) ∧ ∀ k, k < 6 → up1 m b v k < 256) := by
                  refine ⟨?_, fun k hk => ?_⟩
                  · rw [HI.out.1, rst_dig HI17.out (by rw [HR.out.1]; exact hr2) HIS.out hz0, hb, hmb, hd, hv]
                  · unfold up1
                    split
                    · rw [← hv]; exact Nat.mod_lt _ (by decide)
                    · exact HI.out.2 k hk
                have q1 : Int.tdiv (i : Int) 3 = (b : Int) := by rw [Int.tdiv_eq_ediv_of_nonneg (by omega)]; omega
                have q1' : (i : Int) / 3 = (b : Int) := by omega
                have q2 : IntKind.i64.wrap (b : Int) = (b : Int) := i64_s _ (by omega) (by have := HB6.out; omega)
                have q3 : (b : Int) < 6 := by have := HB6.out; omega
                have q4 : (0 : Int) ≤ (b : Int) := by omega
                have q5 : IntKind.u8.wrap (d : Int) = (d : Int) := u8_s _ (by omega) (by have := HD16.out; omega)
                have q6 : ((mb : Int) * 16 % 256 + (d : Int)) % 256 = (v : Int) := by have := HD16.out; omega
                have q7 : IntKind.u8.wrap ((mb : Int) * 16 % 256 + (d : Int)) = (v : Int) := by have h : IntKind.u8.wrap ((mb : Int) * 16 % 256 + (d : Int)) = ((mb : Int) * 16 % 256 + (d : Int)) % 256 := rfl; rw [h]; exact q6
                clear hr2 hz0 hb hmb hd hv hd2
                go_upto_region 12 with fail
                refine MixJ.start (fun A => MacAt A M m ∧ MacAt A B mz ∧ Below w.heap.size w A) 14 (by kernel_rfl) ?_
                obtain ⟨wA, hwA⟩ : ∃ W_, W_ = wr.drew := ⟨_, rfl⟩
                have bdr : Below wr.heap.size wr wA := by rw [hwA]; exact (Below.refl _ _).drew
                have hS : MacAt wA M m ∧ MacAt wA B mz ∧ Below w.heap.size w wA := ⟨HM.out.1.below bdr, HM.out.2.1.below bdr, HM.out.2.2.trans (bdr.mono HM.out.2.2.size)⟩
                rw [← hwA]
                clear hwA bdr
                refine MixJ.takes [true, true, true, true, true, false, false, true, true] 8 (by kernel_rfl) (by kernel_rfl) (by decide) (by kernel_rfl) (by kernel_rfl) hS (fun K hK => ?_)
                simp only [Mix.pick]
                repeat (go_big_quiet_step (fail))
                refine wpQuiet_nil (hK _ ?_)
                clear hK K
                refine MixJ.take 7 5 _ (.int .u8 (mb : Nat)) rfl (by kernel_rfl) (by kernel_rfl) (by kernel_rfl) (by kernel_rfl) (by kernel_rfl) (by kernel_rfl) (yields_by4 (.tmp 50) rfl ⟨M, b, none⟩ (.int .u8 (mb : Nat)) rfl rfl (fun A hA => by rw [← HMB.out.1]; exact hA.1.byte b HB6.out.2)) hS (fun a' ha => ?_)
                simp only [Act.put, List.setIfInBounds_toArray, List.set_cons_succ, List.set_cons_zero] at ha
                subst ha
                refine MixJ.takes [false, false, false, false, false, false, true] 6 (by kernel_rfl) (by kernel_rfl) (by decide) (by kernel_rfl) (by kernel_rfl) hS (fun K hK => ?_)
                simp only [Mix.pick]
                repeat (go_big_quiet_step (fail))
                refine wpQuiet_nil (hK _ ?_)
                clear hK K
                refine MixJ.take 5 9 _ (.int .u8 (sB s i : Nat)) rfl (by kernel_rfl) (by kernel_rfl) (by kernel_rfl) (by kernel_rfl) (by kernel_rfl) (by kernel_rfl) (yields_sBu (.tmp 53) (.tmp 54) rfl .i64 s i _ rfl rfl rfl HIS.out rfl) hS (fun a' ha => ?_)
                simp only [Act.put, List.setIfInBounds_toArray, List.set_cons_succ, List.set_cons_zero] at ha
                subst ha
                refine MixJ.many [10] 4 (by kernel_rfl) (by decide) (by kernel_rfl) ?_
                intro i_ hi_
                simp only [List.mem_cons, List.not_mem_nil, or_false] at hi_
                subst hi_
                refine ⟨_, rfl, fun K hK => ?_⟩
                go_wp2_with fail
                refine Calls.mono (worth_any (sB s i) wA (sB_lt s i)) ?_
                rintro e wz ⟨rfl, rfl⟩
                rw [HDZ.out]
                go_wp2_with fail
                refine ⟨rfl, hK _ _ (fun _ => hS) ?_⟩
                clear hK K
                refine MixJ.takes [false, false, false, false, false, false, false, false, false, false, false, true, true, true] 1 (by kernel_rfl) (by kernel_rfl) (by decide) (by kernel_rfl) (by kernel_rfl) hS (fun K hK => ?_)
                simp only [Mix.pick]
                repeat (go_big_quiet_step (fail))
                refine wpQuiet_nil (hK _ ?_)
                clear hK K
                refine MixJ.many [14] 0 (by kernel_rfl) (by decide) (by kernel_rfl) ?_
                intro i_ hi_
                simp only [List.mem_cons, List.not_mem_nil, or_false] at hi_
                subst hi_
                refine ⟨_, rfl, fun K hK => ?_⟩
                have cb := hS.1.byte b HB6.out.2
                have fb := hS.1.fz b
                obtain ⟨w8, hw8⟩ : ∃ W_, W_ = wA.setCell ⟨M, b, none⟩ (.int .u8 (v : Nat)) := ⟨_, rfl⟩
                have HW8 : Hid (wA.setCell ⟨M, b, none⟩ (.int .u8 (v : Nat)) = w8) := hw8.symm
                have H8 : Hid (MacAt w8 M (up1 m b v) ∧ MacAt w8 B mz ∧ Below w.heap.size w w8) := by
                  have k8 : Ch (fun q => q = M) wA w8 := by rw [hw8]; exact (Ch.refl (fun q => q = M) wA).set ⟨M, b, none⟩ _ rfl
                  have h1 := HBM.out
                  have hp := hS.1.put b v HB6.out.2
                  rw [← hw8] at hp
                  exact ⟨hp, hS.2.1.ch k8 (by omega), hS.2.2.trans (k8.below (fun q hq => by have h' : q = M := hq; omega) hS.2.2.size)⟩
                clear hw8
                go_wp2_with fail
                rw [HW8.out]
                clear cb fb
                refine ⟨rfl, hK _ _ (fun q => absurd rfl q) ?_⟩
                clear hK K
                refine MixJ.done (by kernel_rfl) ?_
                (try clear hS)
                go_wp2
                go_roundw
                case rel => exact ⟨i + 1, up1 m b v, HI17.out, HIS.out, by simp, HN.out, H8.out⟩
                case measure => have := HI17.out; simp [intOf]; omega
      · have HE17 : Hid (i = 17) := by show i = 17; omega
        obtain rfl := HE17.out
        have HF : Hid (pMC s = .inl m) := by show pMC s = .inl m; rw [HI.out.1, rst_end]
        clear h17 hi his HE17
        go_wp2_with (first | (refine wpList_load_mac (.tmp 5) rfl M m rfl HM.out.1 rfl ?_) | (refine wpList_store_mac (.tmp 2) (.tmp 60) rfl rfl B mz m rfl rfl HM.out.2.1 rfl ?_))
        intro wE hE kE
        have HE : Hid (MacAt wE B m ∧ Below w.heap.size w wE) := ⟨hE, HM.out.2.2.trans (kE.below (fun q hq => by have h' : q = B := hq; have := HBM.out; omega) HM.out.2.2.size)⟩
        clear hE kE
        go_wp2_with fail
        (try simp only [Exit.inBlock, Exit.then])
        refine bodyPost_ret (results_mac_tmp2 rfl _ _ B _ rfl HE.out.1) rfl ?_
        exact ⟨by rw [HF.out]; rfl, HE.out.2⟩
end Go.Proofs.YteldiggaooeeeaaGreatDoor
