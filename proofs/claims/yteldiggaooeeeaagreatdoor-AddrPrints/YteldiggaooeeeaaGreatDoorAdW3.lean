/-
  Layer 4: value, addr.reader: digits, number.
-/
import Derived.Test.YteldiggaooeeeaaGreatDoorAdW2
namespace Go.Proofs.YteldiggaooeeeaaGreatDoor
open Go.RowKit Go.Maps

/-- the number that the first k digits of a base are -/
def vlN (d : ByteArray) (base : Nat) : Nat → Nat
  | 0 => 0
  | k + 1 => vlN d base k * base + dgV (sB d k)
theorem vlN_le {d : ByteArray} {base : Nat} (hb : base ≤ 16) : ∀ k, vlN d base k + 2 ≤ 2 * 17 ^ k
  | 0 => by simp [vlN]
  | k + 1 => by
    have h1 := vlN_le (d := d) hb k
    have h2 := dgV_le (sB d k)
    have h3 : vlN d base k * base ≤ vlN d base k * 16 := Nat.mul_le_mul_left _ hb
    unfold vlN
    rw [Nat.pow_succ]
    omega
theorem vlN_small {d : ByteArray} {base k : Nat} (hb : base ≤ 16) (hk : k ≤ 3) : vlN d base k ≤ 9826 := by
  have h1 := vlN_le (d := d) hb k
  have h2 : 17 ^ k ≤ 17 ^ 3 := Nat.pow_le_pow_right (by omega) hk
  omega
set_option maxHeartbeats 1600000 in
set_option maxRecDepth 100000 in
theorem value_any (d : ByteArray) (base : Nat) (w : World) (hd : d.size ≤ 4) (hb : base ≤ 16) : Calls Tryz.prog 68 #[.string d, .int .i64 (base : Nat)] w fun r w' => r = .returned (.int .i64 (vlN d base d.size : Nat)) ∧ w = w' := by
  have HD : Hid (d.size ≤ 4 ∧ base ≤ 16) := ⟨hd, hb⟩
  clear hd hb
  go_enter Tryz.func68, Tryz.ntmps68
  go_wp2
  go_loopw [5, 9] (fun nv ix wr => ∃ k : Nat, k ≤ d.size ∧ ix = .int .i64 (k : Nat) ∧ nv = .int .i64 (vlN d base k : Nat) ∧ w = wr) (fun _ ix _ => d.size - (intOf ix).toNat)
  case atStart => exact ⟨0, Nat.zero_le _, rfl, rfl, rfl⟩
  case round =>
    obtain ⟨k, hk, rfl, rfl, rfl⟩ := hrel
    have HK : Hid (k ≤ d.size) := hk
    clear hk
    by_cases hlt : k < d.size
    · have p1 : decide ((k : Int) < (d.size : Int)) = true := decide_eq_true (by omega)
      have p0 : decide (k < d.size) = true := decide_eq_true hlt
      have HLT : Hid (k < d.size) := hlt
      obtain ⟨n, hn⟩ : ∃ n, vlN d base k = n := ⟨_, rfl⟩
      have HN : Hid (vlN d base k = n ∧ n ≤ 9826) := ⟨hn, by rw [← hn]; exact vlN_small HD.out.2 (by have := HD.out; omega)⟩
      obtain ⟨v, hv⟩ : ∃ v, dgV (sB d k) = v := ⟨_, rfl⟩
      have HV : Hid (dgV (sB d k) = v ∧ v ≤ 16) := ⟨hv, by rw [← hv]; exact dgV_le _⟩
      obtain ⟨nb, hnb⟩ : ∃ nb : Nat, nb = n * base := ⟨_, rfl⟩
      have HNB : Hid (nb = n * base ∧ nb ≤ 157216) := ⟨hnb, by have h1 := HN.out.2; have h2 := HD.out.2; rw [hnb]; exact Nat.le_trans (Nat.mul_le_mul h1 h2) (by decide)⟩
      have x1 : IntKind.i64.wrap ((n : Int) * (base : Int)) = (nb : Int) := by rw [hnb, Int.natCast_mul]; exact i64_s _ (by rw [← Int.natCast_mul, ← hnb]; omega) (by rw [← Int.natCast_mul, ← hnb]; have := HNB.out.2; omega)
      have x2 : IntKind.i64.wrap ((nb : Int) + (v : Int)) = (nb : Int) + (v : Int) := i64_s _ (by omega) (by have := HNB.out.2; have := HV.out.2; omega)
      have x3 : IntKind.i64.wrap ((k : Int) + 1) = (k : Int) + 1 := i64_s _ (by omega) (by have := HD.out; have := HLT.out; omega)
      rw [hn]
      clear hlt hn hv hnb
      go_wp2_with (refine wpList_sB (.tmp 15) (.tmp 16) rfl d k _ rfl rfl rfl HLT.out rfl ?_)
      refine (digit_any' (sB d k) w (sB_lt _ _)).mono ?_
      rintro e wz ⟨rfl, rfl⟩
      rw [HV.out.1]
      go_wp2
      go_roundw
      case rel => exact ⟨k + 1, HLT.out, by simp, by unfold vlN; rw [HN.out.1, HV.out.1, ← HNB.out.1]; simp, by first | rfl | trivial⟩
      case measure => have := HLT.out; simp [intOf]; omega
    · have p1 : decide ((k : Int) < (d.size : Int)) = false := decide_eq_false (by omega)
      have p0 : decide (k < d.size) = false := decide_eq_false hlt
      have HE : Hid (k = d.size) := by have := HK.out; show k = _; omega
      clear hlt
      go_wp2
      go_ret
      exact ⟨by rw [HE.out]; rfl, rfl⟩
/-- the digits of a base -/
def dgF (base : Nat) (c : Nat) : Bool := decide (dgV c < base)
theorem dgF_ten : dgF 10 = dgB := by funext c; exact dgV_ten c
theorem dgF_hex : dgF 16 = hxB := by funext c; exact dgV_hex c
theorem scP_ge (s : ByteArray) (f : Nat → Bool) (p : Nat) : p ≤ scP s f p := scn_ge s f _ p
theorem scP_le {s : ByteArray} {f : Nat → Bool} {p : Nat} (h : p ≤ s.size) : scP s f p ≤ s.size := scn_le s f _ p h
def RdC (w A : World) (R : Nat) (s : ByteArray) (p : Nat) : Prop := RdAt A R s p ∧ Ch (fun k => k = R) w A
theorem RdC.start {w : World} {R : Nat} {s : ByteArray} {p : Nat} (h : RdAt w R s p) : RdC w w R s p := ⟨h, Ch.refl _ _⟩
theorem RdC.no {w A B : World} {R : Nat} {s : ByteArray} {p : Nat} (h : RdC w A R s p) (c : NoCh A B) : RdC w B R s p := ⟨rd_no h.1 c, h.2.trans c (fun _ _ h => h.elim)⟩
theorem RdC.to {w A B : World} {R : Nat} {s : ByteArray} {p q : Nat} (h : RdC w A R s p) (c : RdC A B R s q) : RdC w B R s q := ⟨c.1, h.2.trans c.2 (fun _ _ h => h)⟩
theorem RdC.set {w A : World} {R : Nat} {s : ByteArray} {p : Nat} (h : RdC w A R s p) (q : Nat) : RdC w (A.setCell ⟨R, 1, none⟩ (.int .i64 (q : Nat))) R s q := ⟨h.1.set q, h.2.set ⟨R, 1, none⟩ _ rfl⟩
/-- the text between two places -/
def cutB (s : ByteArray) (p q : Nat) : ByteArray := s.extract p q
/-- what digits answers -/
def dgR (s : ByteArray) (base p : Nat) : Value := if scP s (dgF base) p == p then .tuple #[.string ⟨#[]⟩, .int .i64 ((hrE s p).1 : Nat)] else .tuple #[.string (cutB s p (scP s (dgF base) p)), .int .i64 0]
theorem dgR_no {s : ByteArray} {base p : Nat} (h : scP s (dgF base) p = p) : dgR s base p = .tuple #[.string ⟨#[]⟩, .int .i64 ((hrE s p).1 : Nat)] := by unfold dgR; rw [h]; simp
theorem dgR_yes {s : ByteArray} {base p q : Nat} (h : scP s (dgF base) p = q) (hq : q ≠ p) : dgR s base p = .tuple #[.string (cutB s p q), .int .i64 0] := by unfold dgR; rw [h, if_neg (by simpa using hq)]
/-- the place where the reader stands -/
def rdM (s : ByteArray) (R : Nat) (w : World) : Nat := match w.cell? ⟨R, 1, none⟩ with
  | some (.int _ z) => s.size - z.toNat
  | _ => 0
theorem rdM_at {s : ByteArray} {R : Nat} {w : World} {p : Nat} (h : RdAt w R s p) : rdM s R w = s.size - p := by unfold rdM; rw [h.c1]; simp
set_option maxHeartbeats 1600000 in
set_option maxRecDepth 100000 in
theorem digits_any (R : Nat) (s : ByteArray) (p base : Nat) (w : World) (h : RdAt w R s p) (hp : p ≤ s.size) (hs : s.size ≤ 1000) : Calls Tryz.prog 64 #[.pointer (some ⟨R, 0, none⟩), .int .i64 (base : Nat)] w fun r w' => r = .returned (dgR s base p) ∧ RdC w w' R s (scP s (dgF base) p) := by
  have H : Hid (RdC w w R s p) := RdC.start h
  have HP : Hid (p ≤ s.size ∧ s.size ≤ 1000) := ⟨hp, hs⟩
  have c1 := h.c1
  clear h hp hs
  go_enter Tryz.func64, Tryz.ntmps64
  go_wp2
  clear c1
  go_loopw [] (fun wr => ∃ q : Nat, p ≤ q ∧ q ≤ s.size ∧ Hid (scP s (dgF base) q = scP s (dgF base) p) ∧ Hid (RdC w wr R s q)) (fun wr => rdM s R wr)
  case atStart => exact ⟨p, Nat.le_refl _, HP.out.1, rfl, H.out⟩
  case round =>
    obtain ⟨q, hq1, hq2, HQ, HR⟩ := hrel
    have HQB : Hid (p ≤ q ∧ q ≤ s.size) := ⟨hq1, hq2⟩
    clear hq1 hq2
    by_cases hlt : q < s.size
    · have HEQ : Hid ((q == s.size) = false) := by show _ = _; simp; omega
      have HLT : Hid (q < s.size) := hlt
      obtain ⟨v, hv⟩ : ∃ v, dgV (sB s q) = v := ⟨_, rfl⟩
      have HV : Hid (dgV (sB s q) = v) := hv
      have HF : Hid (dgF base (sB s q) = decide (v < base)) := by show _ = _; unfold dgF; rw [hv]
      clear hlt hv
      go_upto_region 2 with fail
      refine MixH.start (fun A => RdC w A R s q) (by kernel_rfl) ?_
      obtain ⟨wA, hwA⟩ : ∃ W_, W_ = wr.drew := ⟨_, rfl⟩
      have bdr : Below wr.heap.size wr wA := by rw [hwA]; exact (Below.refl _ _).drew
      have hS : RdC w wA R s q := HR.out.no (Ch.ofBelow bdr)
      rw [← hwA]
      clear hwA bdr
      refine MixH.takes [true] 16 (by kernel_rfl) (by kernel_rfl) (by decide) (by kernel_rfl) hS (fun K hK => ?_)
      simp only [Mix.pick]
      repeat (go_big_quiet_step (fail))
      refine wpQuiet_nil (hK _ ?_)
      clear hK K
      refine MixH.one [false, true] 15 1 _ rfl rfl (by kernel_rfl) (by kernel_rfl) (fun K hK => ?_)
      simp only [Mix.pick]
      go_wp2_with fail
      refine Calls.mono (ended_any R s q wA hS.1) ?_
      rintro e w1 ⟨rfl, hn⟩
      have hS := hS.no hn
      rw [HEQ.out]
      clear hn
      go_wp2_with fail
      refine ⟨rfl, hK _ _ hS ?_⟩
      clear hK K
      refine MixH.takes [false, false, true, true, true, true, true, false, true, true, true, false, false, false, true] 6 (by kernel_rfl) (by kernel_rfl) (by decide) (by kernel_rfl) hS (fun K hK => ?_)
      simp only [Mix.pick]
      repeat (go_big_quiet_step (fail))
      refine wpQuiet_nil (hK _ ?_)
      clear hK K
      refine MixH.take 5 7 _ (.string s) rfl (by kernel_rfl) (by kernel_rfl) (by kernel_rfl) (by kernel_rfl) (yields_str (.tmp 17) rfl ⟨R, 0, none⟩ (.string s) rfl rfl (fun A hA => hA.1.c0)) hS (fun a' ha => ?_)
      simp only [Act.put, List.setIfInBounds_toArray, List.set_cons_succ, List.set_cons_zero] at ha
      subst ha
      refine MixH.take 4 11 _ (.int .i64 (q : Nat)) rfl (by kernel_rfl) (by kernel_rfl) (by kernel_rfl) (by kernel_rfl) (yields_int (.tmp 21) rfl ⟨R, 1, none⟩ (.int .i64 (q : Nat)) rfl rfl (fun A hA => hA.1.c1)) hS (fun a' ha => ?_)
      simp only [Act.put, List.setIfInBounds_toArray, List.set_cons_succ, List.set_cons_zero] at ha
      subst ha
      refine MixH.one [false, false, false, false, false, false, false, false, false, false, false, false, true] 3 12 _ rfl rfl (by kernel_rfl) (by kernel_rfl) (fun K hK => ?_)
      simp only [Mix.pick]
      go_wp2_with (refine wpList_sB (.tmp 18) (.tmp 22) rfl s q _ rfl rfl rfl HLT.out rfl ?_)
      go_wp2_with fail
      refine ⟨rfl, hK _ _ hS ?_⟩
      clear hK K
      refine MixH.one [false, false, false, false, false, false, false, false, false, false, false, false, false, true] 2 13 _ rfl rfl (by kernel_rfl) (by kernel_rfl) (fun K hK => ?_)
      simp only [Mix.pick]
      go_wp2_with fail
      refine Calls.mono (digit_any' (sB s q) w1 (sB_lt _ _)) ?_
      rintro e wz ⟨rfl, rfl⟩
      rw [HV.out]
      go_wp2_with fail
      refine ⟨rfl, hK _ _ hS ?_⟩
      clear hK K
      refine MixH.takes [false, false, false, false, false, false, false, false, false, false, false, false, false, false, false, true, true] 0 (by kernel_rfl) (by kernel_rfl) (by decide) (by kernel_rfl) hS (fun K hK => ?_)
      simp only [Mix.pick]
      repeat (go_big_quiet_step (fail))
      refine wpQuiet_nil (hK _ ?_)
      clear hK K
      refine MixH.done (by kernel_rfl) ?_
      have H1 : Hid (RdC w w1 R s q) := hS
      clear hS
      by_cases hvb : v < base
      · have d1 : decide ((v : Int) < (base : Int)) = true := decide_eq_true (by omega)
        have d2 : decide (v < base) = true := decide_eq_true hvb
        have d3 : (v : Int) < (base : Int) := by omega
        have HQ2 : Hid (scP s (dgF base) (q + 1) = scP s (dgF base) p) := by show _ = _; rw [← scP_step HLT.out (HF.out.trans d2)]; exact HQ.out
        have c1 := H1.out.1.c1
        have f1 := H1.out.1.fz 1
        have e1 : IntKind.i64.wrap ((q : Int) + 1) = (q : Int) + 1 := i64_s _ (by omega) (by have := HLT.out; have := HP.out; omega)
        have H2 : Hid (RdC w (w1.setCell ⟨R, 1, none⟩ (.int .i64 ((q : Int) + 1))) R s (q + 1)) := H1.out.set (q + 1)
        go_wp2
        go_roundw
        case rel => exact ⟨q + 1, by have := HQB.out; omega, HLT.out, HQ2.out, H2.out⟩
        case measure => rw [rdM_at H2.out.1, rdM_at HR.out.1]; have := HLT.out; omega
      · have d1 : decide ((v : Int) < (base : Int)) = false := decide_eq_false (by omega)
        have d2 : decide (v < base) = false := decide_eq_false hvb
        have d3 : ¬ (v : Int) < (base : Int) := by omega
        have HE : Hid (scP s (dgF base) p = q) := by show _ = _; rw [← HQ.out]; exact scP_stop (by rw [HF.out, d2]; simp)
        by_cases hqp : q = p
        · have e1 : ((q : Int) == (p : Int)) = true := by simp [hqp]
          have e2 : (q == p) = true := by simp [hqp]
          have HQP : Hid (q = p) := hqp
          clear hqp
          have c1 := H1.out.1.c1
          go_wp2_with fail
          refine (wrong_any R s q w1 H1.out.1 HQB.out.2).mono ?_
          rintro e w2 ⟨rfl, hn⟩
          have H2 : Hid (RdC w w2 R s q) := H1.out.no hn
          clear hn c1
          go_wp2
          refine bodyPost_ret (results_tmp2 rfl _ _ _) rfl ?_
          exact ⟨by rw [dgR_no (HE.out.trans HQP.out), ← HQP.out]; rfl, by rw [HE.out]; exact H2.out⟩
        · have HQN : Hid (q ≠ p) := hqp
          have e1 : ((q : Int) == (p : Int)) = false := by simp; omega
          have e2 : (q == p) = false := by simp [hqp]
          clear hqp
          have c1 := H1.out.1.c1
          have c0 := H1.out.1.c0
          have b1 : (0 : Int) ≤ (p : Int) := by omega
          have b2 : (p : Int) ≤ (q : Int) := by have := HQB.out; omega
          have b3 : (q : Int) ≤ (s.size : Int) := by have := HQB.out; omega
          go_wp2
          try go_region
          go_wp2
          refine bodyPost_ret (results_tmp2 rfl _ _ _) rfl ?_
          exact ⟨by rw [dgR_yes HE.out HQN.out]; rfl, by rw [HE.out]; exact H1.out.no (Ch.refl _ _).drew⟩
    · have HEQ : Hid ((q == s.size) = true) := by have := HQB.out; show _ = _; simp; omega
      have HE : Hid (scP s (dgF base) p = q) := by show _ = _; rw [← HQ.out]; exact scP_stop (by rw [decide_eq_false hlt]; rfl)
      clear hlt
      go_upto_region 2 with fail
      refine MixH.start (fun A => RdC w A R s q) (by kernel_rfl) ?_
      obtain ⟨wA, hwA⟩ : ∃ W_, W_ = wr.drew := ⟨_, rfl⟩
      have bdr : Below wr.heap.size wr wA := by rw [hwA]; exact (Below.refl _ _).drew
      have hS : RdC w wA R s q := HR.out.no (Ch.ofBelow bdr)
      rw [← hwA]
      clear hwA bdr
      refine MixH.takes [true] 16 (by kernel_rfl) (by kernel_rfl) (by decide) (by kernel_rfl) hS (fun K hK => ?_)
      simp only [Mix.pick]
      repeat (go_big_quiet_step (fail))
      refine wpQuiet_nil (hK _ ?_)
      clear hK K
      refine MixH.one [false, true] 15 1 _ rfl rfl (by kernel_rfl) (by kernel_rfl) (fun K hK => ?_)
      simp only [Mix.pick]
      go_wp2_with fail
      refine Calls.mono (ended_any R s q wA hS.1) ?_
      rintro e w1 ⟨rfl, hn⟩
      have hS := hS.no hn
      rw [HEQ.out]
      clear hn
      go_wp2_with fail
      refine ⟨rfl, hK _ _ hS ?_⟩
      clear hK K
      refine MixH.takes [false, false, true, true, true, true, true, false, true, true, true, false, false, false, true] 6 (by kernel_rfl) (by kernel_rfl) (by decide) (by kernel_rfl) hS (fun K hK => ?_)
      simp only [Mix.pick]
      repeat (go_big_quiet_step (fail))
      refine wpQuiet_nil (hK _ ?_)
      clear hK K
      refine MixH.take 5 7 _ (undef) rfl (by kernel_rfl) (by kernel_rfl) (by kernel_rfl) (by kernel_rfl) (.inr ⟨rfl, rfl⟩) hS (fun a' ha => ?_)
      simp only [Act.put, List.setIfInBounds_toArray, List.set_cons_succ, List.set_cons_zero] at ha
      subst ha
      refine MixH.take 4 11 _ (undef) rfl (by kernel_rfl) (by kernel_rfl) (by kernel_rfl) (by kernel_rfl) (.inr ⟨rfl, rfl⟩) hS (fun a' ha => ?_)
      simp only [Act.put, List.setIfInBounds_toArray, List.set_cons_succ, List.set_cons_zero] at ha
      subst ha
      refine MixH.takes [false, false, false, false, false, false, false, false, false, false, false, false, true] 3 (by kernel_rfl) (by kernel_rfl) (by decide) (by kernel_rfl) hS (fun K hK => ?_)
      simp only [Mix.pick]
      repeat (go_big_quiet_step (fail))
      refine wpQuiet_nil (hK _ ?_)
      clear hK K
      refine MixH.take 2 13 _ (undef) rfl (by kernel_rfl) (by kernel_rfl) (by kernel_rfl) (by kernel_rfl) (.inr ⟨rfl, rfl⟩) hS (fun a' ha => ?_)
      simp only [Act.put, List.setIfInBounds_toArray, List.set_cons_succ, List.set_cons_zero] at ha
      subst ha
      refine MixH.takes [false, false, false, false, false, false, false, false, false, false, false, false, false, false, false, true, true] 0 (by kernel_rfl) (by kernel_rfl) (by decide) (by kernel_rfl) hS (fun K hK => ?_)
      simp only [Mix.pick]
      repeat (go_big_quiet_step (fail))
      refine wpQuiet_nil (hK _ ?_)
      clear hK K
      refine MixH.done (by kernel_rfl) ?_
      have H1 : Hid (RdC w w1 R s q) := hS
      clear hS
      by_cases hqp : q = p
      · have e1 : ((q : Int) == (p : Int)) = true := by simp [hqp]
        have e2 : (q == p) = true := by simp [hqp]
        have HQP : Hid (q = p) := hqp
        clear hqp
        have c1 := H1.out.1.c1
        go_wp2_with fail
        refine (wrong_any R s q w1 H1.out.1 HQB.out.2).mono ?_
        rintro e w2 ⟨rfl, hn⟩
        have H2 : Hid (RdC w w2 R s q) := H1.out.no hn
        clear hn c1
        go_wp2
        refine bodyPost_ret (results_tmp2 rfl _ _ _) rfl ?_
        exact ⟨by rw [dgR_no (HE.out.trans HQP.out), ← HQP.out]; rfl, by rw [HE.out]; exact H2.out⟩
      · have HQN : Hid (q ≠ p) := hqp
        have e1 : ((q : Int) == (p : Int)) = false := by simp; omega
        have e2 : (q == p) = false := by simp [hqp]
        clear hqp
        have c1 := H1.out.1.c1
        have c0 := H1.out.1.c0
        have b1 : (0 : Int) ≤ (p : Int) := by omega
        have b2 : (p : Int) ≤ (q : Int) := by have := HQB.out; omega
        have b3 : (q : Int) ≤ (s.size : Int) := by have := HQB.out; omega
        go_wp2
        try go_region
        go_wp2
        refine bodyPost_ret (results_tmp2 rfl _ _ _) rfl ?_
        exact ⟨by rw [dgR_yes HE.out HQN.out]; rfl, by rw [HE.out]; exact H1.out.no (Ch.refl _ _).drew⟩
end Go.Proofs.YteldiggaooeeeaaGreatDoor
