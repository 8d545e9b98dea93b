/-
  weirref4: a text's bytes; digit, worth, here, has, two, decimal.
-/
/-
  weirref4: decimal.
-/
/-
  weirref4: dotted.
-/
/-
  weirref4: what is read of a text of version 6 (six): fail, room, between.
-/
/-
  weirref4: six.between.
-/
/-
  weirref4: six.group, of a text without a dot.
-/
/-
  weirref4: sixes in numbers (a text without a dot).
-/
/-
  weirref4: sixes, of a text without a dot that is right.
-/
import Derived.Test.YteldiggaooeeeaaGreatDoorAdQ
import Derived.Deep.CutBlock
import Derived.Deep.DeepCutAuto
import Derived.Test.YteldiggaooeeeaaGreatDoorPSplit
import Derived.Test.YteldiggaooeeeaaGreatDoorMixH
import Derived.Test.YteldiggaooeeeaaGreatDoorAdFn1
namespace Go.Proofs.YteldiggaooeeeaaGreatDoor
open Go.RowKit Go.Maps

set_option maxHeartbeats 1600000 in
set_option maxRecDepth 100000 in
theorem digit_any (c : Nat) (w : World) : Calls Tryz.prog 79 #[.int .u8 (c : Nat)] w fun r w' => r = .returned (.bool (dgB c)) ∧ w = w' := by
  go_enter Tryz.func79, Tryz.ntmps79
  by_cases h1 : 48 ≤ c
  · have q1 : decide ((48 : Int) ≤ (c : Int)) = true := decide_eq_true (by omega)
    have q0 : decide (48 ≤ c) = true := decide_eq_true h1
    go_wp2
    go_ret
    exact ⟨by simp [dgB, q0]; try omega, rfl⟩
  · have q1 : decide ((48 : Int) ≤ (c : Int)) = false := decide_eq_false (by omega)
    have q0 : decide (48 ≤ c) = false := decide_eq_false h1
    go_wp2
    go_ret
    exact ⟨by simp [dgB, q0], rfl⟩
set_option maxHeartbeats 1600000 in
set_option maxRecDepth 100000 in
theorem worth_any (c : Nat) (w : World) (hc : c < 256) : Calls Tryz.prog 84 #[.int .u8 (c : Nat)] w fun r w' => r = .returned (.int .i64 (wth c)) ∧ w = w' := by
  obtain ⟨b, hb⟩ : ∃ b, dgB c = b := ⟨_, rfl⟩
  have HB : Hid (dgB c = b) := hb
  go_enter Tryz.func84, Tryz.ntmps84
  go_wp2_with fail
  refine (digit_any c w).mono ?_
  rintro e w1 ⟨rfl, rfl⟩
  rw [hb]
  clear hb
  cases b with
  | true =>
    have h1 : 48 ≤ c ∧ c ≤ 57 := by have := HB.out; simp [dgB] at this; exact this
    have w1 : IntKind.u8.wrap ((c : Int) - 48) = (c : Int) - 48 := u8_s _ (by omega) (by omega)
    have w2 : IntKind.i64.wrap ((c : Int) - 48) = (c : Int) - 48 := i64_s _ (by omega) (by omega)
    go_wp2
    go_ret
    exact ⟨by unfold wth; rw [HB.out]; rfl, rfl⟩
  | false =>
    by_cases h1 : 97 ≤ c ∧ c ≤ 102
    · have q1 : decide ((97 : Int) ≤ (c : Int)) = true := decide_eq_true (by omega)
      have q2 : decide ((c : Int) ≤ 102) = true := decide_eq_true (by omega)
      have w1 : IntKind.u8.wrap ((c : Int) - 97) = (c : Int) - 97 := u8_s _ (by omega) (by omega)
      have w2 : IntKind.i64.wrap ((c : Int) - 97) = (c : Int) - 97 := i64_s _ (by omega) (by omega)
      have w3 : IntKind.i64.wrap ((c : Int) - 97 + 10) = (c : Int) - 97 + 10 := i64_s _ (by omega) (by omega)
      have HR : Hid (wth c = (c : Int) - 97 + 10) := by show _ = _; unfold wth; rw [HB.out]; simp [h1]
      clear h1 hc
      go_wp2
      go_ret
      exact ⟨by rw [HR.out]; rfl, rfl⟩
    · have q3 : (decide ((97 : Int) ≤ (c : Int)) && decide ((c : Int) ≤ 102)) = false := by simp; omega
      have HN : Hid ((decide (97 ≤ c) && decide (c ≤ 102)) = false) := by show _ = false; simp; omega
      have hcut : (if decide ((97 : Int) ≤ (c : Int)) then decide ((c : Int) ≤ 102) else false) = false := by by_cases q : (97 : Int) ≤ (c : Int) <;> simp [q] <;> omega
      by_cases h2 : 65 ≤ c ∧ c ≤ 70
      · have q1 : decide ((65 : Int) ≤ (c : Int)) = true := decide_eq_true (by omega)
        have q2 : decide ((c : Int) ≤ 70) = true := decide_eq_true (by omega)
        have q4 : decide ((97 : Int) ≤ (c : Int)) = false := decide_eq_false (by omega)
        have w1 : IntKind.u8.wrap ((c : Int) - 65) = (c : Int) - 65 := u8_s _ (by omega) (by omega)
        have w2 : IntKind.i64.wrap ((c : Int) - 65) = (c : Int) - 65 := i64_s _ (by omega) (by omega)
        have w3 : IntKind.i64.wrap ((c : Int) - 65 + 10) = (c : Int) - 65 + 10 := i64_s _ (by omega) (by omega)
        have HR : Hid (wth c = (c : Int) - 65 + 10) := by show _ = _; unfold wth; rw [HB.out, HN.out]; simp [h2]
        clear h1 h2 hc q3 hcut
        go_wp2
        go_ret
        exact ⟨by rw [HR.out]; rfl, rfl⟩
      · have HR : Hid (wth c = -1) := by
          show _ = _; unfold wth; rw [HB.out, HN.out]
          have : (decide (65 ≤ c) && decide (c ≤ 70)) = false := by simp; omega
          rw [this]; rfl
        by_cases h3 : 97 ≤ c
        · have q1 : decide ((97 : Int) ≤ (c : Int)) = true := decide_eq_true (by omega)
          have q2 : decide ((c : Int) ≤ 102) = false := decide_eq_false (by omega)
          have q5 : decide ((65 : Int) ≤ (c : Int)) = true := decide_eq_true (by omega)
          have q6 : decide ((c : Int) ≤ 70) = false := decide_eq_false (by omega)
          clear h1 h2 h3 hc q3 hcut
          go_wp2
          go_ret
          exact ⟨by rw [HR.out]; rfl, rfl⟩
        · have q1 : decide ((97 : Int) ≤ (c : Int)) = false := decide_eq_false (by omega)
          by_cases h4 : 65 ≤ c
          · have q5 : decide ((65 : Int) ≤ (c : Int)) = true := decide_eq_true (by omega)
            have q6 : decide ((c : Int) ≤ 70) = false := decide_eq_false (by omega)
            clear h1 h2 h3 h4 hc q3 hcut
            go_wp2
            go_ret
            exact ⟨by rw [HR.out]; rfl, rfl⟩
          · have q5 : decide ((65 : Int) ≤ (c : Int)) = false := decide_eq_false (by omega)
            clear h1 h2 h3 h4 hc q3 hcut
            go_wp2
            go_ret
            exact ⟨by rw [HR.out]; rfl, rfl⟩
set_option maxHeartbeats 1600000 in
set_option maxRecDepth 100000 in
theorem here_any (s : ByteArray) (p : Nat) (w : World) : Calls Tryz.prog 80 #[.string s, .int .i64 (p : Nat)] w fun r w' => r = .returned (.tuple #[.int .i64 ((hrE s p).1 : Nat), .int .i64 ((hrE s p).2 : Nat)]) ∧ w = w' := by
  go_enter Tryz.func80, Tryz.ntmps80
  by_cases h1 : s.size ≤ p
  · have q1 : decide ((s.size : Int) ≤ (p : Int)) = true := decide_eq_true (by omega)
    have HR : Hid (hrE s p = (42, s.size)) := by show _ = _; unfold hrE; rw [if_pos h1]
    go_wp2
    refine bodyPost_ret (results_tmp2 rfl _ _ _) rfl ?_
    exact ⟨by rw [HR.out]; rfl, rfl⟩
  · have q1 : decide ((s.size : Int) ≤ (p : Int)) = false := decide_eq_false (by omega)
    have HR : Hid (hrE s p = (41, p)) := by show _ = _; unfold hrE; rw [if_neg h1]
    go_wp2
    refine bodyPost_ret (results_tmp2 rfl _ _ _) rfl ?_
    exact ⟨by rw [HR.out]; rfl, rfl⟩
set_option maxHeartbeats 1600000 in
set_option maxRecDepth 100000 in
theorem hasT_any (s : ByteArray) (c : Nat) (w : World) (hs : s.size ≤ 100000) : Calls Tryz.prog 74 #[.string s, .int .u8 (c : Nat)] w fun r w' => r = .returned (.bool (hsB s c)) ∧ w = w' := by
  have HS : Hid (s.size ≤ 100000) := hs
  clear hs
  go_enter Tryz.func74, Tryz.ntmps74
  go_wp2
  go_loopw [5] (fun ix wr => ∃ k : Nat, k ≤ s.size ∧ ix = .int .i64 k ∧ (∀ i, i < k → sB s i ≠ c) ∧ w = wr) (fun ix _ => s.size - (intOf ix).toNat)
  case atStart => exact ⟨0, by omega, rfl, fun i hi => by omega, rfl⟩
  case round =>
    obtain ⟨k, hk, rfl, hN, rfl⟩ := hrel
    have HN : Hid (∀ i, i < k → sB s i ≠ c) := hN
    clear hN
    by_cases hlt : k < s.size
    · have q1 : decide ((k : Int) < (s.size : Int)) = true := decide_eq_true (by omega)
      have q0 : decide (k < s.size) = true := decide_eq_true hlt
      have w1 : IntKind.i64.wrap ((k : Int) + 1) = (k : Int) + 1 := i64_s _ (by omega) (by have := HS.out; omega)
      by_cases he : sB s k = c
      · have qe : decide (((sB s k : Nat) : Int) = (c : Int)) = true := decide_eq_true (by omega)
        have qf : (((sB s k : Nat) : Int) == (c : Int)) = true := by simp [he]
        have HR : Hid (hsB s c = true) := hsB_true hlt he
        have HLT : Hid (k < s.size) := hlt
        clear he hlt hk
        go_wp2_with (refine wpList_sB (.tmp 12) (.tmp 13) rfl s k _ rfl rfl rfl HLT.out rfl ?_)
        go_ret
        exact ⟨by rw [HR.out]; rfl, rfl⟩
      · have qe : decide (((sB s k : Nat) : Int) = (c : Int)) = false := decide_eq_false (by omega)
        have qf : (((sB s k : Nat) : Int) == (c : Int)) = false := by simp; omega
        have HLT : Hid (k < s.size) := hlt
        have HE : Hid (sB s k ≠ c) := he
        clear he hlt hk
        go_wp2_with (refine wpList_sB (.tmp 12) (.tmp 13) rfl s k _ rfl rfl rfl HLT.out rfl ?_)
        go_roundw
        case rel => exact ⟨k + 1, HLT.out, by simp, fun i hi => if h : i = k then h ▸ HE.out else HN.out i (by omega), by first | rfl | trivial⟩
        case measure => have := HLT.out; simp [intOf]; omega
    · have q1 : decide ((k : Int) < (s.size : Int)) = false := decide_eq_false (by omega)
      have q0 : decide (k < s.size) = false := decide_eq_false hlt
      have HR : Hid (hsB s c = false) := hsB_false (fun i hi => HN.out i (by omega))
      clear hlt hk
      go_wp2
      go_ret
      exact ⟨by rw [HR.out]; rfl, rfl⟩
set_option maxHeartbeats 1600000 in
set_option maxRecDepth 100000 in
theorem two_any (s : ByteArray) (p : Nat) (w : World) (hs : p ≤ 100000) : Calls Tryz.prog 104 #[.string s, .int .i64 (p : Nat)] w fun r w' => r = .returned (.bool (twB s p)) ∧ w = w' := by
  have w1 : IntKind.i64.wrap ((p : Int) + 1) = (p : Int) + 1 := i64_s _ (by omega) (by omega)
  clear hs
  go_enter Tryz.func104, Tryz.ntmps104
  by_cases h1 : p + 1 < s.size
  · have q1 : decide ((p : Int) + 1 < (s.size : Int)) = true := decide_eq_true (by omega)
    have H1 : Hid (p + 1 < s.size) := h1
    have H0 : Hid (p < s.size) := Nat.lt_of_succ_lt h1
    clear h1
    by_cases h2 : sB s p = 58
    · have q2 : (((sB s p : Nat) : Int) == 58) = true := by simp [h2]
      have q2' : decide (((sB s p : Nat) : Int) = 58) = true := decide_eq_true (by omega)
      have HR : Hid (twB s p = (sB s (p + 1) == 58)) := by show _ = _; unfold twB; rw [decide_eq_true H1.out, h2]; rfl
      have HE1 : Hid ((p : Int) + 1 = ((p + 1 : Nat) : Int)) := by show _ = _; omega
      clear h2
      go_wp2_with (first | (refine wpList_sB (.tmp 11) (.tmp 12) rfl s p _ rfl rfl rfl H0.out rfl ?_) | (refine wpList_sB (.tmp 17) (.tmp 19) rfl s (p + 1) _ rfl rfl HE1.out H1.out rfl ?_))
      go_ret
      exact ⟨by rw [HR.out, ← beq58]; rfl, rfl⟩
    · have q2 : (((sB s p : Nat) : Int) == 58) = false := by simp; omega
      have q2' : decide (((sB s p : Nat) : Int) = 58) = false := decide_eq_false (by omega)
      have HR : Hid (twB s p = false) := by show _ = _; unfold twB; simp [h2]
      clear h2
      go_wp2_with (first | (refine wpList_sB (.tmp 11) (.tmp 12) rfl s p _ rfl rfl rfl H0.out rfl ?_))
      go_ret
      exact ⟨by rw [HR.out]; rfl, rfl⟩
  · have q1 : decide ((p : Int) + 1 < (s.size : Int)) = false := decide_eq_false (by omega)
    have HR : Hid (twB s p = false) := by show _ = _; unfold twB; rw [decide_eq_false h1]; rfl
    clear h1
    go_wp2
    go_ret
    exact ⟨by rw [HR.out]; rfl, rfl⟩
end Go.Proofs.YteldiggaooeeeaaGreatDoor
namespace Go.Proofs.YteldiggaooeeeaaGreatDoor
open Go.RowKit Go.Maps

set_option maxHeartbeats 1600000 in
set_option maxRecDepth 100000 in
theorem decimal_any (s : ByteArray) (p q most : Nat) (w : World) (hp : p ≤ q) (hq : q ≤ s.size) (hs : s.size ≤ 100000) (hd : ∀ i, i < q - p → dgB (sB s (p + i)) = true) : Calls Tryz.prog 81 #[.string s, .int .i64 (p : Nat), .int .i64 (q : Nat), .int .i64 (most : Nat)] w fun r w' => r = .returned (.int .i64 (dcm s p q most)) ∧ w = w' := by
  have HP : Hid (p ≤ q) := hp
  have HQ : Hid (q ≤ s.size) := hq
  have HS : Hid (s.size ≤ 100000) := hs
  have HD : Hid (∀ i, i < q - p → dgB (sB s (p + i)) = true) := hd
  have w1 : IntKind.i64.wrap ((q : Int) - (p : Int)) = (q : Int) - (p : Int) := i64_s _ (by omega) (by omega)
  clear hp hq hs hd
  go_enter Tryz.func81, Tryz.ntmps81
  by_cases h3 : 3 < q - p
  · have q3 : decide ((3 : Int) < (q : Int) - (p : Int)) = true := decide_eq_true (by omega)
    have HR : Hid (dcm s p q most = -1) := by show _ = _; unfold dcm; rw [decide_eq_true h3]; rfl
    clear h3
    go_wp2
    go_ret
    exact ⟨by rw [HR.out]; rfl, rfl⟩
  · have q3 : decide ((3 : Int) < (q : Int) - (p : Int)) = false := decide_eq_false (by omega)
    have H3 : Hid (q - p ≤ 3) := by show _ ≤ _; omega
    obtain ⟨b, hb⟩ : ∃ b, (decide (1 < q - p) && sB s p == 48) = b := ⟨_, rfl⟩
    have HB : Hid ((decide (1 < q - p) && sB s p == 48) = b) := hb
    have HF : Hid (decide (3 < q - p) = false) := decide_eq_false h3
    clear h3 hb
    cases b with
    | true =>
      have h := HB.out
      simp at h
      have H0 : Hid (p < s.size) := by have := HQ.out; show _ < _; omega
      have q1 : decide ((1 : Int) < (q : Int) - (p : Int)) = true := decide_eq_true (by omega)
      have q2 : (((sB s p : Nat) : Int) == 48) = true := by simp [h.2]
      have HR : Hid (dcm s p q most = -1) := by show _ = _; unfold dcm; rw [HB.out, HF.out]; rfl
      clear h
      go_wp2_with (first | (refine wpList_sB (.tmp 21) (.tmp 22) rfl s p _ rfl rfl rfl H0.out rfl ?_))
      go_ret
      exact ⟨by rw [HR.out]; rfl, rfl⟩
    | false =>
      have HR : Hid (dcm s p q most = if most < dcN s p (q - p) then (-1 : Int) else ((dcN s p (q - p) : Nat) : Int)) := by show _ = _; unfold dcm; rw [HB.out, HF.out]; rfl
      by_cases h1 : 1 < q - p
      · have q1 : decide ((1 : Int) < (q : Int) - (p : Int)) = true := decide_eq_true (by omega)
        have H0 : Hid (p < s.size) := by have := HQ.out; show _ < _; omega
        have q2 : (((sB s p : Nat) : Int) == 48) = false := by have := HB.out; simp [h1] at this; simp; omega
        clear h1
        go_wp2_with (first | (refine wpList_sB (.tmp 21) (.tmp 22) rfl s p _ rfl rfl rfl H0.out rfl ?_))
        go_loopw [9, 10] (fun nv ix wr => ∃ i n : Nat, p ≤ i ∧ i ≤ q ∧ ix = .int .i64 (i : Nat) ∧ nv = .int .i64 (n : Nat) ∧ Hid (n = dcN s p (i - p)) ∧ w = wr) (fun _ ix _ => q - (intOf ix).toNat)
        case atStart => exact ⟨p, 0, Nat.le_refl _, HP.out, rfl, rfl, by show _ = _; rw [Nat.sub_self]; rfl, rfl⟩
        case round =>
          obtain ⟨i, n, hi1, hi2, rfl, rfl, HNN, rfl⟩ := hrel
          have HI : Hid (p ≤ i ∧ i ≤ q) := ⟨hi1, hi2⟩
          have HLT0 : Hid (n < 1000) := by show n < 1000; rw [HNN.out]; exact dcN_small (by have := H3.out; omega) (fun j hj => HD.out j (by omega))
          clear hi1 hi2
          by_cases hlt : i < q
          · have p1 : decide ((i : Int) < (q : Int)) = true := decide_eq_true (by omega)
            have p0 : decide (i < q) = true := decide_eq_true hlt
            have HD1 : Hid (48 ≤ sB s i ∧ sB s i ≤ 57) := by
              have := HD.out (i - p) (by have := HI.out; omega)
              rw [show p + (i - p) = i by have := HI.out; omega] at this
              simp [dgB] at this
              exact this
            have HIS : Hid (i < s.size) := by have := HQ.out; show i < _; omega
            have HLT : Hid (i < q) := hlt
            obtain ⟨d, hd⟩ : ∃ d : Nat, d = sB s i - 48 := ⟨_, rfl⟩
            have HDE : Hid (d = sB s i - 48) := hd
            clear hd
            have HD9 : Hid (d ≤ 9) := by have h1 := HDE.out; have h2 := HD1.out; show d ≤ 9; omega
            have x1 : IntKind.u8.wrap (((sB s i : Nat) : Int) - 48) = (d : Int) := by have h1 := HDE.out; have h2 := HD1.out; rw [u8_s _ (by omega) (by omega)]; omega
            have x2 : IntKind.i64.wrap (10 * (n : Int)) = 10 * (n : Int) := i64_s _ (by omega) (by have := HLT0.out; omega)
            have x3 : IntKind.i64.wrap (d : Int) = (d : Int) := i64_s _ (by omega) (by have := HD9.out; omega)
            have x4 : IntKind.i64.wrap (10 * (n : Int) + (d : Int)) = 10 * (n : Int) + (d : Int) := i64_s _ (by omega) (by have := HD9.out; have := HLT0.out; omega)
            have x5 : IntKind.i64.wrap ((i : Int) + 1) = (i : Int) + 1 := i64_s _ (by omega) (by have := HS.out; have := HIS.out; omega)
            clear hlt
            go_wp2_with (refine wpList_sB (.tmp 35) (.tmp 36) rfl s i _ rfl rfl rfl HIS.out rfl ?_)
            go_roundw
            case rel =>
              refine ⟨i + 1, 10 * n + d, by have := HI.out; omega, HLT.out, by simp, by simp, ?_, by first | rfl | trivial⟩
              show _ = _
              rw [show i + 1 - p = (i - p) + 1 by have := HI.out; omega]
              unfold dcN
              rw [← HNN.out, HDE.out, show p + (i - p) = i by have := HI.out; omega]
            case measure => have := HLT.out; simp [intOf]; omega
          · have p1 : decide ((i : Int) < (q : Int)) = false := decide_eq_false (by omega)
            have p0 : decide (i < q) = false := decide_eq_false hlt
            have HNE : Hid (n = dcN s p (q - p)) := by show _ = _; rw [HNN.out, show i = q by have := HI.out; omega]
            clear hlt
            by_cases hm : most < n
            · have m1 : decide ((most : Int) < (n : Int)) = true := decide_eq_true (by omega)
              have m0 : decide (most < n) = true := decide_eq_true hm
              have HZ : Hid (dcm s p q most = -1) := by show _ = _; rw [HR.out, ← HNE.out, if_pos hm]
              clear hm
              go_wp2
              go_ret
              exact ⟨by rw [HZ.out]; rfl, rfl⟩
            · have m1 : decide ((most : Int) < (n : Int)) = false := decide_eq_false (by omega)
              have m0 : decide (most < n) = false := decide_eq_false hm
              have HZ : Hid (dcm s p q most = (n : Nat)) := by show _ = _; rw [HR.out, ← HNE.out, if_neg hm]
              clear hm
              go_wp2
              go_ret
              exact ⟨by rw [HZ.out]; rfl, rfl⟩
      · have q1 : decide ((1 : Int) < (q : Int) - (p : Int)) = false := decide_eq_false (by omega)
        clear h1
        go_wp2
        go_loopw [9, 10] (fun nv ix wr => ∃ i n : Nat, p ≤ i ∧ i ≤ q ∧ ix = .int .i64 (i : Nat) ∧ nv = .int .i64 (n : Nat) ∧ Hid (n = dcN s p (i - p)) ∧ w = wr) (fun _ ix _ => q - (intOf ix).toNat)
        case atStart => exact ⟨p, 0, Nat.le_refl _, HP.out, rfl, rfl, by show _ = _; rw [Nat.sub_self]; rfl, rfl⟩
        case round =>
          obtain ⟨i, n, hi1, hi2, rfl, rfl, HNN, rfl⟩ := hrel
          have HI : Hid (p ≤ i ∧ i ≤ q) := ⟨hi1, hi2⟩
          have HLT0 : Hid (n < 1000) := by show n < 1000; rw [HNN.out]; exact dcN_small (by have := H3.out; omega) (fun j hj => HD.out j (by omega))
          clear hi1 hi2
          by_cases hlt : i < q
          · have p1 : decide ((i : Int) < (q : Int)) = true := decide_eq_true (by omega)
            have p0 : decide (i < q) = true := decide_eq_true hlt
            have HD1 : Hid (48 ≤ sB s i ∧ sB s i ≤ 57) := by
              have := HD.out (i - p) (by have := HI.out; omega)
              rw [show p + (i - p) = i by have := HI.out; omega] at this
              simp [dgB] at this
              exact this
            have HIS : Hid (i < s.size) := by have := HQ.out; show i < _; omega
            have HLT : Hid (i < q) := hlt
            obtain ⟨d, hd⟩ : ∃ d : Nat, d = sB s i - 48 := ⟨_, rfl⟩
            have HDE : Hid (d = sB s i - 48) := hd
            clear hd
            have HD9 : Hid (d ≤ 9) := by have h1 := HDE.out; have h2 := HD1.out; show d ≤ 9; omega
            have x1 : IntKind.u8.wrap (((sB s i : Nat) : Int) - 48) = (d : Int) := by have h1 := HDE.out; have h2 := HD1.out; rw [u8_s _ (by omega) (by omega)]; omega
            have x2 : IntKind.i64.wrap (10 * (n : Int)) = 10 * (n : Int) := i64_s _ (by omega) (by have := HLT0.out; omega)
            have x3 : IntKind.i64.wrap (d : Int) = (d : Int) := i64_s _ (by omega) (by have := HD9.out; omega)
            have x4 : IntKind.i64.wrap (10 * (n : Int) + (d : Int)) = 10 * (n : Int) + (d : Int) := i64_s _ (by omega) (by have := HD9.out; have := HLT0.out; omega)
            have x5 : IntKind.i64.wrap ((i : Int) + 1) = (i : Int) + 1 := i64_s _ (by omega) (by have := HS.out; have := HIS.out; omega)
            clear hlt
            go_wp2_with (refine wpList_sB (.tmp 35) (.tmp 36) rfl s i _ rfl rfl rfl HIS.out rfl ?_)
            go_roundw
            case rel =>
              refine ⟨i + 1, 10 * n + d, by have := HI.out; omega, HLT.out, by simp, by simp, ?_, by first | rfl | trivial⟩
              show _ = _
              rw [show i + 1 - p = (i - p) + 1 by have := HI.out; omega]
              unfold dcN
              rw [← HNN.out, HDE.out, show p + (i - p) = i by have := HI.out; omega]
            case measure => have := HLT.out; simp [intOf]; omega
          · have p1 : decide ((i : Int) < (q : Int)) = false := decide_eq_false (by omega)
            have p0 : decide (i < q) = false := decide_eq_false hlt
            have HNE : Hid (n = dcN s p (q - p)) := by show _ = _; rw [HNN.out, show i = q by have := HI.out; omega]
            clear hlt
            by_cases hm : most < n
            · have m1 : decide ((most : Int) < (n : Int)) = true := decide_eq_true (by omega)
              have m0 : decide (most < n) = true := decide_eq_true hm
              have HZ : Hid (dcm s p q most = -1) := by show _ = _; rw [HR.out, ← HNE.out, if_pos hm]
              clear hm
              go_wp2
              go_ret
              exact ⟨by rw [HZ.out]; rfl, rfl⟩
            · have m1 : decide ((most : Int) < (n : Int)) = false := decide_eq_false (by omega)
              have m0 : decide (most < n) = false := decide_eq_false hm
              have HZ : Hid (dcm s p q most = (n : Nat)) := by show _ = _; rw [HR.out, ← HNE.out, if_neg hm]
              clear hm
              go_wp2
              go_ret
              exact ⟨by rw [HZ.out]; rfl, rfl⟩
end Go.Proofs.YteldiggaooeeeaaGreatDoor
namespace Go.Proofs.YteldiggaooeeeaaGreatDoor
open Go.RowKit Go.Maps

def DtR (s : ByteArray) (p : Nat) (w : World) (r : Ending) (w' : World) : Prop := match dtd s 4 p [] with
  | .inr e => r = .returned (.tuple #[.slice none 0 0, .int .i64 (e.1 : Nat), .int .i64 (e.2 : Nat)])
  | .inl l => ∃ v, r = .returned (.tuple #[v, .int .i64 0, .int .i64 0]) ∧ w'.ownsRow w.heap.size 5 1 v l.length (l.map fun n => Value.int .u8 (n : Nat))
theorem DtR.no {s : ByteArray} {p : Nat} {w w' : World} {r : Ending} {e : Nat × Nat} (h : dtd s 4 p [] = .inr e) (hr : r = .returned (.tuple #[.slice none 0 0, .int .i64 (e.1 : Nat), .int .i64 (e.2 : Nat)])) : DtR s p w r w' := by unfold DtR; rw [h]; exact hr
theorem DtR.yes {s : ByteArray} {p : Nat} {w w' : World} {r : Ending} {l : List Nat} (h : dtd s 4 p [] = .inl l) (v : Value) (hr : r = .returned (.tuple #[v, .int .i64 0, .int .i64 0])) (ho : w'.ownsRow w.heap.size 5 1 v l.length (l.map fun n => Value.int .u8 (n : Nat))) : DtR s p w r w' := by unfold DtR; rw [h]; exact ⟨v, hr, ho⟩
set_option maxHeartbeats 1600000 in
set_option maxRecDepth 100000 in
theorem dotted_any (s : ByteArray) (p0 : Nat) (w : World) (hs : s.size ≤ 1000) (hp : p0 ≤ s.size) : Calls Tryz.prog 76 #[.string s, .int .i64 (p0 : Nat)] w fun r w' => DtR s p0 w r w' ∧ Below w.heap.size w w' := by
  have HS : Hid (s.size ≤ 1000) := hs
  have HP0 : Hid (p0 ≤ s.size) := hp
  clear hs hp
  obtain ⟨i0, hi, hz0, hz1, hz2⟩ := info_parts Tryz.infoByte
  have HI : Hid (Tryz.prog.info? 5 = some i0 ∧ i0.zero = some (.int .u8 0) ∧ i0.size = 1 ∧ i0.bytes = 1) := ⟨hi, hz0, hz1, hz2⟩
  clear hi hz0 hz1 hz2
  go_enter Tryz.func76, Tryz.ntmps76
  go_wp2
  go_loopw [7, 1] (fun lv pv wr => ∃ (l : List Nat) (N p m : Nat), N + m = 4 ∧ p ≤ s.size ∧ pv = .int .i64 (p : Nat) ∧ Hid (N = l.length ∧ dtd s m p l = dtd s 4 p0 []) ∧ Hid (wr.ownsRow w.heap.size 5 1 lv N (l.map fun n => Value.int .u8 (n : Nat)) ∧ Below w.heap.size w wr)) (fun lv _ _ => 4 - slN lv)
  case atStart => exact ⟨[], 0, p0, 4, rfl, HP0.out, rfl, ⟨rfl, rfl⟩, World.ownsRow_nil _ _ _ _, Below.refl _ _⟩
  case round =>
    rename_i lv pv
    obtain ⟨l, N, p, m, hm, hp, rfl, HD, HO⟩ := hrel
    obtain ⟨a, c, hlv⟩ := owns_shape HO.out.1
    subst hlv
    have HP : Hid (p ≤ s.size) := hp
    have HNM : Hid (N + m = 4) := hm
    clear hp hm
    by_cases h4 : N < 4
    · have n1 : decide ((N : Int) < 4) = true := decide_eq_true (by omega)
      have n2 : (N : Int) < 4 := by omega
      obtain ⟨m', hm'⟩ : ∃ m', m = m' + 1 := ⟨m - 1, by have := HNM.out; omega⟩
      subst hm'
      clear h4
      go_wp2
      go_loopw [8] (fun qv wq => ∃ q : Nat, p ≤ q ∧ q ≤ s.size ∧ qv = .int .i64 (q : Nat) ∧ Hid (scP s dgB q = scP s dgB p ∧ ∀ i, i < q - p → dgB (sB s (p + i)) = true) ∧ wr = wq) (fun qv _ => s.size - (intOf qv).toNat)
      case atStart => exact ⟨p, Nat.le_refl _, HP.out, rfl, ⟨rfl, fun i hi => by omega⟩, rfl⟩
      case round =>
        obtain ⟨q, hq1, hq2, rfl, HQ, rfl⟩ := hrel
        have HQB : Hid (p ≤ q ∧ q ≤ s.size) := ⟨hq1, hq2⟩
        clear hq1 hq2
        by_cases hlt : q < s.size
        · have p1 : decide ((q : Int) < (s.size : Int)) = true := decide_eq_true (by omega)
          have p2 : decide (q < s.size) = true := decide_eq_true hlt
          have w1 : IntKind.i64.wrap ((q : Int) + 1) = (q : Int) + 1 := i64_s _ (by omega) (by have := HS.out; omega)
          have HLT : Hid (q < s.size) := hlt
          clear hlt
          obtain ⟨b, hb⟩ : ∃ b, dgB (sB s q) = b := ⟨_, rfl⟩
          have HB : Hid (dgB (sB s q) = b) := hb
          clear hb
          go_wp2_with (refine wpList_sB (.tmp 23) (.tmp 24) rfl s q _ rfl rfl rfl HLT.out rfl ?_)
          refine (digit_any (sB s q) wr).mono ?_
          rintro e1 wz ⟨rfl, rfl⟩
          rw [HB.out]
          cases b with
          | true =>
            go_wp2
            go_roundw
            case rel =>
              refine ⟨q + 1, by have := HQB.out; omega, HLT.out, by simp, ⟨by rw [← scP_step HLT.out HB.out]; exact HQ.out.1, fun i hi => ?_⟩, by first | rfl | trivial⟩
              by_cases h : i < q - p
              · exact HQ.out.2 i h
              · rw [show p + i = q by have := HQB.out; omega]; exact HB.out
            case measure => have := HLT.out; simp [intOf]; omega
          | false =>
            have HQE : Hid (scP s dgB p = q) := by show _ = _; rw [← HQ.out.1]; exact scP_stop (by rw [HB.out]; simp)
            by_cases hqp : q = p
            · have e1 : ((q : Int) == (p : Int)) = true := by simp [hqp]
              have e2 : (q == p) = true := by simp [hqp]
              have e3 : decide (q = p) = true := by simp [hqp]
              have HZ : Hid (dtd s 4 p0 [] = .inr (hrE s p)) := by show _ = _; rw [← HD.out.2]; unfold dtd; rw [HQE.out, e2]; rfl
              clear hqp
              go_wp2_with fail
              refine (here_any s p wr).mono ?_
              rintro e4 wz ⟨rfl, rfl⟩
              go_wp2
              refine bodyPost_ret (results_tmp3 rfl _ _ _) rfl ?_
              exact ⟨DtR.no HZ.out rfl, HO.out.2⟩
            · have e1 : ((q : Int) == (p : Int)) = false := by simp; omega
              have e2 : (q == p) = false := by simp [hqp]
              have e3 : decide (q = p) = false := by simp [hqp]
              clear hqp
              go_wp2_with fail
              refine (decimal_any s p q 255 wr HQB.out.1 HQB.out.2 (by have := HS.out; omega) HQ.out.2).mono ?_
              rintro e4 wz ⟨rfl, rfl⟩
              obtain ⟨n, hn⟩ : ∃ n, dcm s p q 255 = n := ⟨_, rfl⟩
              have HN : Hid (dcm s p q 255 = n) := hn
              have HN5 : Hid (n ≤ 255) := by show n ≤ 255; rw [← hn]; exact dcm_le
              rw [hn]
              clear hn
              by_cases hneg : n < 0
              · have d1 : decide (n < 0) = true := decide_eq_true hneg
                have HZ : Hid (dtd s 4 p0 [] = .inr (43, p)) := by show _ = _; rw [← HD.out.2]; unfold dtd; rw [HQE.out, e2, HN.out, d1]; rfl
                clear hneg
                go_wp2
                refine bodyPost_ret (results_tmp3 rfl _ _ _) rfl ?_
                exact ⟨DtR.no HZ.out rfl, HO.out.2⟩
              · have d1 : decide (n < 0) = false := decide_eq_false hneg
                obtain ⟨k, hk⟩ : ∃ k : Nat, n = (k : Int) := ⟨n.toNat, by omega⟩
                subst hk
                have d2 : IntKind.u8.wrap (k : Int) = (k : Int) := u8_s _ (by omega) (by have := HN5.out; omega)
                have HD2 : Hid (dtd s (m' + 1) p l = if m' == 0 then dtd s 0 q (l ++ [k]) else if decide (s.size ≤ q) || sB s q != 46 then .inr (hrE s q) else dtd s m' (q + 1) (l ++ [k])) := by
                  show _ = _
                  conv => lhs; unfold dtd
                  rw [HQE.out, e2, HN.out, d1]
                  rfl
                clear hneg
                go_wp2_with (at_builtin; refine wpList_append_own_at _ rfl (.tmp 48) (.tmp 51) 50 rfl w.heap.size 5 i0 (.int .u8 0) 1 1 Tryz.underlying50 HI.out.1 HI.out.2.1 HI.out.2.2.1 HI.out.2.2.2 rfl (by decide) _ _ _ rfl (HO.out.1.alloc _) ⟨wr.heap.size, 0, none⟩ 1 1 [.int .u8 (k : Nat)] rfl rfl (cellsOne _ _ _) (by intro u hu; simp at hu; subst hu; rfl) (by have := HNM.out; unfold maxLen; omega) (by have := HNM.out; omega) (by have := HO.out.2.size; simp; omega) ?_)
                intro v2 w2 ho2 hg2 _ _
                have H2 : Hid (w2.ownsRow w.heap.size 5 1 v2 (N + 1) ((l ++ [k]).map fun n => Value.int .u8 (n : Nat)) ∧ Below w.heap.size w w2) := ⟨by rw [List.map_append]; exact ho2, (HO.out.2.alloc HO.out.2.size _).grown hg2 (by have := HO.out.2.size; simp; omega) (fun j hj => (HO.out.1.lt j hj).1)⟩
                obtain ⟨N1, hN1⟩ : ∃ N1, N1 = N + 1 := ⟨_, rfl⟩
                have HN1 : Hid (N1 = N + 1) := hN1
                rw [← hN1] at ho2
                obtain ⟨a2, c2, rfl⟩ := owns_shape ho2
                have H3 : Hid (w2.ownsRow w.heap.size 5 1 (.slice a2 N1 c2) N1 ((l ++ [k]).map fun n => Value.int .u8 (n : Nat)) ∧ Below w.heap.size w w2) := by rw [hN1] at H2 ⊢; exact H2
                clear ho2 hg2 hN1 H2
                by_cases hN4 : N1 < 4
                · have f1 : decide ((N1 : Int) < 4) = true := decide_eq_true (by omega)
                  have f2 : (N1 : Int) < 4 := by omega
                  have f3 : (m' == 0) = false := by have h1 := HN1.out; have h2 := HNM.out; simp; omega
                  clear hN4
                  by_cases hqs : s.size ≤ q
                  · have g1 : decide ((s.size : Int) ≤ (q : Int)) = true := decide_eq_true (by omega)
                    have g2 : decide (s.size ≤ q) = true := decide_eq_true hqs
                    have HZ : Hid (dtd s 4 p0 [] = .inr (hrE s q)) := by show _ = _; rw [← HD.out.2, HD2.out, f3, g2]; rfl
                    clear hqs
                    go_wp2_with fail
                    refine (here_any s q w2).mono ?_
                    rintro e4 wz ⟨rfl, rfl⟩
                    go_wp2
                    refine bodyPost_ret (results_tmp3 rfl _ _ _) rfl ?_
                    exact ⟨DtR.no HZ.out rfl, H3.out.2⟩
                  · have g1 : decide ((s.size : Int) ≤ (q : Int)) = false := decide_eq_false (by omega)
                    have g2 : decide (s.size ≤ q) = false := decide_eq_false hqs
                    have HQS : Hid (q < s.size) := by show q < s.size; omega
                    clear hqs
                    by_cases hdot : sB s q = 46
                    · have j1 : (((sB s q : Nat) : Int) != 46) = false := by simp [hdot]
                      have j2 : (((sB s q : Nat) : Int) == 46) = true := by simp [hdot]
                      have j3 : IntKind.i64.wrap ((q : Int) + 1) = (q : Int) + 1 := i64_s _ (by omega) (by have := HS.out; have := HQS.out; omega)
                      have HZ : Hid (dtd s m' (q + 1) (l ++ [k]) = dtd s 4 p0 []) := by show _ = _; rw [← HD.out.2, HD2.out, f3, g2, hdot]; rfl
                      clear hdot
                      go_wp2_with (refine wpList_sB (.tmp 62) (.tmp 63) rfl s q _ rfl rfl rfl HQS.out rfl ?_)
                      go_roundw
                      case rel => exact ⟨l ++ [k], N1, q + 1, m', by have h1 := HN1.out; have h2 := HNM.out; omega, HQS.out, by simp, ⟨by rw [HN1.out, HD.out.1]; simp, HZ.out⟩, H3.out⟩
                      case measure => have h1 := HN1.out; have h2 := HNM.out; simp [slN]; omega
                    · have j1 : (((sB s q : Nat) : Int) != 46) = true := by simp; omega
                      have j2 : (((sB s q : Nat) : Int) == 46) = false := by simp; omega
                      have j4 : (sB s q != 46) = true := by simp [hdot]
                      have HZ : Hid (dtd s 4 p0 [] = .inr (hrE s q)) := by show _ = _; rw [← HD.out.2, HD2.out, f3, g2, j4]; rfl
                      clear hdot
                      go_wp2_with (refine wpList_sB (.tmp 62) (.tmp 63) rfl s q _ rfl rfl rfl HQS.out rfl ?_)
                      refine (here_any s q w2).mono ?_
                      rintro e4 wz ⟨rfl, rfl⟩
                      go_wp2
                      refine bodyPost_ret (results_tmp3 rfl _ _ _) rfl ?_
                      exact ⟨DtR.no HZ.out rfl, H3.out.2⟩
                · have f1 : decide ((N1 : Int) < 4) = false := decide_eq_false (by omega)
                  have f2 : ¬ (N1 : Int) < 4 := by omega
                  obtain rfl : m' = 0 := by have h1 := HN1.out; have h2 := HNM.out; omega
                  have HZ : Hid (dtd s 0 q (l ++ [k]) = dtd s 4 p0 []) := by show _ = _; rw [← HD.out.2, HD2.out]; rfl
                  clear hN4
                  go_wp2
                  go_roundw
                  case rel => exact ⟨l ++ [k], N1, q, 0, by have h1 := HN1.out; have h2 := HNM.out; omega, HQB.out.2, rfl, ⟨by rw [HN1.out, HD.out.1]; simp, HZ.out⟩, H3.out⟩
                  case measure => have h1 := HN1.out; have h2 := HNM.out; simp [slN]; omega
        · have p1 : decide ((q : Int) < (s.size : Int)) = false := decide_eq_false (by omega)
          have p2 : decide (q < s.size) = false := decide_eq_false hlt
          have HQE : Hid (scP s dgB p = q) := by show _ = _; rw [← HQ.out.1]; exact scP_stop (by rw [p2]; simp)
          clear hlt
          by_cases hqp : q = p
          · have e1 : ((q : Int) == (p : Int)) = true := by simp [hqp]
            have e2 : (q == p) = true := by simp [hqp]
            have e3 : decide (q = p) = true := by simp [hqp]
            have HZ : Hid (dtd s 4 p0 [] = .inr (hrE s p)) := by show _ = _; rw [← HD.out.2]; unfold dtd; rw [HQE.out, e2]; rfl
            clear hqp
            go_wp2_with fail
            refine (here_any s p wr).mono ?_
            rintro e4 wz ⟨rfl, rfl⟩
            go_wp2
            refine bodyPost_ret (results_tmp3 rfl _ _ _) rfl ?_
            exact ⟨DtR.no HZ.out rfl, HO.out.2⟩
          · have e1 : ((q : Int) == (p : Int)) = false := by simp; omega
            have e2 : (q == p) = false := by simp [hqp]
            have e3 : decide (q = p) = false := by simp [hqp]
            clear hqp
            go_wp2_with fail
            refine (decimal_any s p q 255 wr HQB.out.1 HQB.out.2 (by have := HS.out; omega) HQ.out.2).mono ?_
            rintro e4 wz ⟨rfl, rfl⟩
            obtain ⟨n, hn⟩ : ∃ n, dcm s p q 255 = n := ⟨_, rfl⟩
            have HN : Hid (dcm s p q 255 = n) := hn
            have HN5 : Hid (n ≤ 255) := by show n ≤ 255; rw [← hn]; exact dcm_le
            rw [hn]
            clear hn
            by_cases hneg : n < 0
            · have d1 : decide (n < 0) = true := decide_eq_true hneg
              have HZ : Hid (dtd s 4 p0 [] = .inr (43, p)) := by show _ = _; rw [← HD.out.2]; unfold dtd; rw [HQE.out, e2, HN.out, d1]; rfl
              clear hneg
              go_wp2
              refine bodyPost_ret (results_tmp3 rfl _ _ _) rfl ?_
              exact ⟨DtR.no HZ.out rfl, HO.out.2⟩
            · have d1 : decide (n < 0) = false := decide_eq_false hneg
              obtain ⟨k, hk⟩ : ∃ k : Nat, n = (k : Int) := ⟨n.toNat, by omega⟩
              subst hk
              have d2 : IntKind.u8.wrap (k : Int) = (k : Int) := u8_s _ (by omega) (by have := HN5.out; omega)
              have HD2 : Hid (dtd s (m' + 1) p l = if m' == 0 then dtd s 0 q (l ++ [k]) else if decide (s.size ≤ q) || sB s q != 46 then .inr (hrE s q) else dtd s m' (q + 1) (l ++ [k])) := by
                show _ = _
                conv => lhs; unfold dtd
                rw [HQE.out, e2, HN.out, d1]
                rfl
              clear hneg
              go_wp2_with (at_builtin; refine wpList_append_own_at _ rfl (.tmp 48) (.tmp 51) 50 rfl w.heap.size 5 i0 (.int .u8 0) 1 1 Tryz.underlying50 HI.out.1 HI.out.2.1 HI.out.2.2.1 HI.out.2.2.2 rfl (by decide) _ _ _ rfl (HO.out.1.alloc _) ⟨wr.heap.size, 0, none⟩ 1 1 [.int .u8 (k : Nat)] rfl rfl (cellsOne _ _ _) (by intro u hu; simp at hu; subst hu; rfl) (by have := HNM.out; unfold maxLen; omega) (by have := HNM.out; omega) (by have := HO.out.2.size; simp; omega) ?_)
              intro v2 w2 ho2 hg2 _ _
              have H2 : Hid (w2.ownsRow w.heap.size 5 1 v2 (N + 1) ((l ++ [k]).map fun n => Value.int .u8 (n : Nat)) ∧ Below w.heap.size w w2) := ⟨by rw [List.map_append]; exact ho2, (HO.out.2.alloc HO.out.2.size _).grown hg2 (by have := HO.out.2.size; simp; omega) (fun j hj => (HO.out.1.lt j hj).1)⟩
              obtain ⟨N1, hN1⟩ : ∃ N1, N1 = N + 1 := ⟨_, rfl⟩
              have HN1 : Hid (N1 = N + 1) := hN1
              rw [← hN1] at ho2
              obtain ⟨a2, c2, rfl⟩ := owns_shape ho2
              have H3 : Hid (w2.ownsRow w.heap.size 5 1 (.slice a2 N1 c2) N1 ((l ++ [k]).map fun n => Value.int .u8 (n : Nat)) ∧ Below w.heap.size w w2) := by rw [hN1] at H2 ⊢; exact H2
              clear ho2 hg2 hN1 H2
              by_cases hN4 : N1 < 4
              · have f1 : decide ((N1 : Int) < 4) = true := decide_eq_true (by omega)
                have f2 : (N1 : Int) < 4 := by omega
                have f3 : (m' == 0) = false := by have h1 := HN1.out; have h2 := HNM.out; simp; omega
                clear hN4
                by_cases hqs : s.size ≤ q
                · have g1 : decide ((s.size : Int) ≤ (q : Int)) = true := decide_eq_true (by omega)
                  have g2 : decide (s.size ≤ q) = true := decide_eq_true hqs
                  have HZ : Hid (dtd s 4 p0 [] = .inr (hrE s q)) := by show _ = _; rw [← HD.out.2, HD2.out, f3, g2]; rfl
                  clear hqs
                  go_wp2_with fail
                  refine (here_any s q w2).mono ?_
                  rintro e4 wz ⟨rfl, rfl⟩
                  go_wp2
                  refine bodyPost_ret (results_tmp3 rfl _ _ _) rfl ?_
                  exact ⟨DtR.no HZ.out rfl, H3.out.2⟩
                · have g1 : decide ((s.size : Int) ≤ (q : Int)) = false := decide_eq_false (by omega)
                  have g2 : decide (s.size ≤ q) = false := decide_eq_false hqs
                  have HQS : Hid (q < s.size) := by show q < s.size; omega
                  clear hqs
                  by_cases hdot : sB s q = 46
                  · have j1 : (((sB s q : Nat) : Int) != 46) = false := by simp [hdot]
                    have j2 : (((sB s q : Nat) : Int) == 46) = true := by simp [hdot]
                    have j3 : IntKind.i64.wrap ((q : Int) + 1) = (q : Int) + 1 := i64_s _ (by omega) (by have := HS.out; have := HQS.out; omega)
                    have HZ : Hid (dtd s m' (q + 1) (l ++ [k]) = dtd s 4 p0 []) := by show _ = _; rw [← HD.out.2, HD2.out, f3, g2, hdot]; rfl
                    clear hdot
                    go_wp2_with (refine wpList_sB (.tmp 62) (.tmp 63) rfl s q _ rfl rfl rfl HQS.out rfl ?_)
                    go_roundw
                    case rel => exact ⟨l ++ [k], N1, q + 1, m', by have h1 := HN1.out; have h2 := HNM.out; omega, HQS.out, by simp, ⟨by rw [HN1.out, HD.out.1]; simp, HZ.out⟩, H3.out⟩
                    case measure => have h1 := HN1.out; have h2 := HNM.out; simp [slN]; omega
                  · have j1 : (((sB s q : Nat) : Int) != 46) = true := by simp; omega
                    have j2 : (((sB s q : Nat) : Int) == 46) = false := by simp; omega
                    have j4 : (sB s q != 46) = true := by simp [hdot]
                    have HZ : Hid (dtd s 4 p0 [] = .inr (hrE s q)) := by show _ = _; rw [← HD.out.2, HD2.out, f3, g2, j4]; rfl
                    clear hdot
                    go_wp2_with (refine wpList_sB (.tmp 62) (.tmp 63) rfl s q _ rfl rfl rfl HQS.out rfl ?_)
                    refine (here_any s q w2).mono ?_
                    rintro e4 wz ⟨rfl, rfl⟩
                    go_wp2
                    refine bodyPost_ret (results_tmp3 rfl _ _ _) rfl ?_
                    exact ⟨DtR.no HZ.out rfl, H3.out.2⟩
              · have f1 : decide ((N1 : Int) < 4) = false := decide_eq_false (by omega)
                have f2 : ¬ (N1 : Int) < 4 := by omega
                obtain rfl : m' = 0 := by have h1 := HN1.out; have h2 := HNM.out; omega
                have HZ : Hid (dtd s 0 q (l ++ [k]) = dtd s 4 p0 []) := by show _ = _; rw [← HD.out.2, HD2.out]; rfl
                clear hN4
                go_wp2
                go_roundw
                case rel => exact ⟨l ++ [k], N1, q, 0, by have h1 := HN1.out; have h2 := HNM.out; omega, HQB.out.2, rfl, ⟨by rw [HN1.out, HD.out.1]; simp, HZ.out⟩, H3.out⟩
                case measure => have h1 := HN1.out; have h2 := HNM.out; simp [slN]; omega
    · have n1 : decide ((N : Int) < 4) = false := decide_eq_false (by omega)
      have n2 : ¬ (N : Int) < 4 := by omega
      obtain rfl : m = 0 := by have := HNM.out; omega
      clear h4
      by_cases hlt : p < s.size
      · have p1 : decide ((p : Int) < (s.size : Int)) = true := decide_eq_true (by omega)
        have p2 : decide (p < s.size) = true := decide_eq_true hlt
        have HZ : Hid (dtd s 4 p0 [] = .inr (41, p)) := by show _ = _; rw [← HD.out.2]; unfold dtd; rw [p2]; rfl
        clear hlt
        go_wp2
        refine bodyPost_ret (results_tmp3 rfl _ _ _) rfl ?_
        exact ⟨DtR.no HZ.out rfl, HO.out.2⟩
      · have p1 : decide ((p : Int) < (s.size : Int)) = false := decide_eq_false (by omega)
        have p2 : decide (p < s.size) = false := decide_eq_false hlt
        have HZ : Hid (dtd s 4 p0 [] = .inl l) := by show _ = _; rw [← HD.out.2]; unfold dtd; rw [p2]; rfl
        clear hlt
        go_wp2
        refine bodyPost_ret (results_tmp3 rfl _ _ _) rfl ?_
        exact ⟨DtR.yes HZ.out _ rfl (by rw [← HD.out.1]; exact HO.out.1), HO.out.2⟩
end Go.Proofs.YteldiggaooeeeaaGreatDoor
namespace Go.Proofs.YteldiggaooeeeaaGreatDoor
open Go.RowKit Go.Maps

structure SxAt (w : World) (R : Nat) (s : ByteArray) (lv : Value) (X : SX) : Prop where
  blk : w.heap[R]? = some (.cells (sxC s lv X) 147 (0, 0))
  own : w.ownsRow (R + 1) 3 1 lv X.g.length (X.g.map fun n => Value.int .i64 (n : Nat))
section
variable {w : World} {R : Nat} {s : ByteArray} {lv : Value} {X : SX} (k : SxAt w R s lv X)
include k
theorem SxAt.lt : R < w.heap.size := (Array.getElem?_eq_some_iff.1 k.blk).1
theorem SxAt.cell (i : Nat) : w.cell? ⟨R, i, none⟩ = (sxC s lv X)[i]? := by have := k.blk; simp [World.cell?, this]
theorem SxAt.c0 : w.cell? ⟨R, 0, none⟩ = some (.string s) := k.cell 0
theorem SxAt.c1 : w.cell? ⟨R, 1, none⟩ = some lv := k.cell 1
theorem SxAt.c2 : w.cell? ⟨R, 2, none⟩ = some (.int .i64 X.gap) := k.cell 2
theorem SxAt.c3 : w.cell? ⟨R, 3, none⟩ = some (.int .i64 (X.p : Nat)) := k.cell 3
theorem SxAt.c4 : w.cell? ⟨R, 4, none⟩ = some (.int .i64 (X.er : Nat)) := k.cell 4
theorem SxAt.c5 : w.cell? ⟨R, 5, none⟩ = some (.int .i64 (X.pl : Nat)) := k.cell 5
theorem SxAt.fz (j : Nat) : w.frozen? ⟨R, j, none⟩ = false := by have := k.blk; simp [World.frozen?, this]
theorem SxAt.ch {S : Nat → Prop} {w' : World} (c : Ch S w w') (hR : ¬ S R) (hS : ∀ q, R < q → ¬ S q) : SxAt w' R s lv X :=
  ⟨(c.block R k.lt hR).trans k.blk, c.owns k.own (fun g hg => hS g (k.own.lt g hg).1)⟩
theorem SxAt.below {w' : World} (c : Below w.heap.size w w') : SxAt w' R s lv X := k.ch (Ch.ofBelow (S := fun _ => False) c) (fun h => h) (fun _ _ h => h)
theorem SxAt.set (i : Nat) (v : Value) {X' : SX} (hg : X'.g = X.g) (hC : (sxC s lv X).setIfInBounds i v = sxC s lv X') : SxAt (w.setCell ⟨R, i, none⟩ v) R s lv X' := by
  refine ⟨?_, ?_⟩
  · rw [heap_setCell_same w R i _ _ v k.blk, hC]
  · rw [hg]
    exact ((Ch.refl (fun q => q = R) w).set ⟨R, i, none⟩ v rfl).owns k.own (fun g h1 h2 => by have := (k.own.lt g h1).1; omega)
end
set_option maxHeartbeats 1600000 in
set_option maxRecDepth 100000 in
theorem fail_any (R : Nat) (s : ByteArray) (lv : Value) (X : SX) (e a : Nat) (w : World) (h : SxAt w R s lv X) : Calls Tryz.prog 107 #[.pointer (some ⟨R, 0, none⟩), .int .i64 (e : Nat), .int .i64 (a : Nat)] w fun r w' => r = .returned (.tuple #[]) ∧ SxAt w' R s lv (X.fail e a) ∧ Ch (fun q => q = R) w w' := by
  have HH : Hid (SxAt w R s lv X) := h
  have c4 := h.c4
  have f4 := h.fz 4
  have H1 : Hid (SxAt (w.setCell ⟨R, 4, none⟩ (.int .i64 (e : Nat))) R s lv { X with er := e }) := h.set 4 _ rfl rfl
  have f5 := H1.out.fz 5
  have c5 := H1.out.c5
  have H2 : Hid (SxAt ((w.setCell ⟨R, 4, none⟩ (.int .i64 (e : Nat))).setCell ⟨R, 5, none⟩ (.int .i64 (a : Nat))) R s lv { X with er := e, pl := a }) := H1.out.set 5 _ rfl rfl
  clear h
  go_enter Tryz.func107, Tryz.ntmps107
  by_cases he : X.er = 0
  · have q1 : (((X.er : Nat) : Int) == 0) = true := by simp [he]
    have HR : Hid (X.fail e a = { X with er := e, pl := a }) := by show _ = _; unfold SX.fail; rw [he]; rfl
    clear he
    go_wp2
    refine bodyPost_end (results_none rfl _ _ _) rfl ?_
    exact ⟨rfl, by rw [HR.out]; exact H2.out, ((Ch.refl (fun q => q = R) w).set ⟨R, 4, none⟩ _ rfl).set ⟨R, 5, none⟩ _ rfl⟩
  · have q1 : (((X.er : Nat) : Int) == 0) = false := by simp [he]
    have HR : Hid (X.fail e a = X) := by show _ = _; unfold SX.fail; rw [beq_false_of_ne he]; rfl
    clear he
    go_wp2
    refine bodyPost_end (results_none rfl _ _ _) rfl ?_
    exact ⟨rfl, by rw [HR.out]; exact HH.out, Ch.refl _ w⟩
set_option maxHeartbeats 1600000 in
set_option maxRecDepth 100000 in
theorem room_any (R : Nat) (s : ByteArray) (lv : Value) (X : SX) (w : World) (h : SxAt w R s lv X) : Calls Tryz.prog 119 #[.pointer (some ⟨R, 0, none⟩)] w fun r w' => r = .returned (.int .i64 (rmN X : Nat)) ∧ w = w' := by
  have c2 := h.c2
  obtain ⟨g, hg⟩ : ∃ g, X.gap = g := ⟨_, rfl⟩
  have HG : Hid (X.gap = g) := hg
  rw [hg] at c2
  clear h hg
  go_enter Tryz.func119, Tryz.ntmps119
  by_cases he : 0 ≤ g
  · have q1 : decide (0 ≤ g) = true := decide_eq_true he
    have HR : Hid (rmN X = 7) := by show _ = _; unfold rmN; rw [HG.out, q1]; rfl
    clear he
    go_wp2
    go_ret
    exact ⟨by rw [HR.out]; rfl, rfl⟩
  · have q1 : decide (0 ≤ g) = false := decide_eq_false he
    have HR : Hid (rmN X = 8) := by show _ = _; unfold rmN; rw [HG.out, q1]; rfl
    clear he
    go_wp2
    go_ret
    exact ⟨by rw [HR.out]; rfl, rfl⟩
end Go.Proofs.YteldiggaooeeeaaGreatDoor
namespace Go.Proofs.YteldiggaooeeeaaGreatDoor
open Go.RowKit Go.Maps

set_option maxHeartbeats 1600000 in
set_option maxRecDepth 100000 in
theorem between_any (R : Nat) (s : ByteArray) (lv : Value) (X : SX) (w : World) (h : SxAt w R s lv X) (hp : X.p < s.size) (hs : s.size ≤ 1000) : Calls Tryz.prog 106 #[.pointer (some ⟨R, 0, none⟩)] w fun r w' => r = .returned (.bool (btw s X).2) ∧ SxAt w' R s lv (btw s X).1 ∧ Ch (fun q => q = R) w w' := by
  obtain ⟨N, hN⟩ : ∃ N, N = X.g.length := ⟨_, rfl⟩
  obtain ⟨a, c, hlv⟩ := owns_shape h.own
  rw [← hN] at hlv
  subst hlv
  have HN : Hid (N = X.g.length) := hN
  obtain ⟨P, hP⟩ : ∃ P, X.p = P := ⟨_, rfl⟩
  have HP : Hid (X.p = P) := hP
  have HP3 : Hid (some (Value.int .i64 ((X.p : Nat) : Int)) = some (Value.int .i64 ((P : Nat) : Int))) := by show _ = _; rw [hP]
  have HPS : Hid (P < s.size) := by show P < s.size; rw [← hP]; exact hp
  have HS : Hid (s.size ≤ 1000) := hs
  obtain ⟨G, hG⟩ : ∃ G, X.gap = G := ⟨_, rfl⟩
  have HG : Hid (X.gap = G) := hG
  have H0 : Hid (SxAt w R s (.slice a N c) X ∧ Ch (fun q => q = R) w w) := ⟨h, Ch.refl _ _⟩
  obtain ⟨b, hb⟩ : ∃ b, twB s P = b := ⟨_, rfl⟩
  have HB : Hid (twB s P = b) := hb
  clear hN hP hp hs hG h hb
  go_enter Tryz.func106, Tryz.ntmps106
  go_upto_region 1 with fail
  refine MixH.start (fun A => SxAt A R s (.slice a N c) X ∧ Ch (fun q => q = R) w A) (by kernel_rfl) ?_
  obtain ⟨wA, hwA⟩ : ∃ wA, wA = w.drew := ⟨_, rfl⟩
  have bdr : Below w.heap.size w wA := by rw [hwA]; exact (Below.refl _ _).drew
  have hS : SxAt wA R s (.slice a N c) X ∧ Ch (fun q => q = R) w wA := ⟨H0.out.1.below bdr, H0.out.2.trans (Ch.ofBelow bdr) (fun _ _ h => h)⟩
  rw [← hwA]
  clear hwA bdr
  refine MixH.takes [true, true, true, false, true, true, true] 4 (by kernel_rfl) (by kernel_rfl) (by decide) (by kernel_rfl) hS (fun K hK => ?_)
  simp only [Mix.pick]
  repeat (go_big_quiet_step (fail))
  refine wpQuiet_nil (hK _ ?_)
  clear hK K
  refine MixH.take 3 3 _ (.string s) rfl (by kernel_rfl) (by kernel_rfl) (by kernel_rfl) (by kernel_rfl) (yields_str (.tmp 6) rfl ⟨R, 0, none⟩ (.string s) rfl rfl (fun A hA => hA.1.c0)) hS (fun a' ha => ?_)
  simp only [Act.put, List.setIfInBounds_toArray, List.set_cons_succ, List.set_cons_zero] at ha
  subst ha
  refine MixH.take 2 7 _ (.int .i64 (P : Nat)) rfl (by kernel_rfl) (by kernel_rfl) (by kernel_rfl) (by kernel_rfl) (yields_int (.tmp 10) rfl ⟨R, 3, none⟩ (.int .i64 (P : Nat)) rfl rfl (fun A hA => hA.1.c3.trans HP3.out)) hS (fun a' ha => ?_)
  simp only [Act.put, List.setIfInBounds_toArray, List.set_cons_succ, List.set_cons_zero] at ha
  subst ha
  refine MixH.one [false, false, false, false, false, false, false, false, true] 1 8 _ rfl rfl (by kernel_rfl) (by kernel_rfl) (fun K hK => ?_)
  simp only [Mix.pick]
  go_wp2_with fail
  refine Calls.mono (two_any s P wA (by have h1 := HPS.out; have h2 := HS.out; omega)) ?_
  rintro e1 wz ⟨rfl, rfl⟩
  rw [HB.out]
  go_wp2_with fail
  refine ⟨rfl, hK _ _ hS ?_⟩
  clear hK K
  refine MixH.takes [false, false, false, false, false, false, false, false, false, true] 0 (by kernel_rfl) (by kernel_rfl) (by decide) (by kernel_rfl) hS (fun K hK => ?_)
  simp only [Mix.pick]
  repeat (go_big_quiet_step (fail))
  refine wpQuiet_nil (hK _ ?_)
  clear hK K
  refine MixH.done (by kernel_rfl) ?_
  have H1 : Hid (SxAt wA R s (.slice a N c) X ∧ Ch (fun q => q = R) w wA) := hS
  have c2 : wA.cell? ⟨R, 2, none⟩ = some (.int .i64 G) := by rw [← HG.out]; exact H1.out.1.c2
  have c1 := H1.out.1.c1
  have c3 : wA.cell? ⟨R, 3, none⟩ = some (.int .i64 (P : Nat)) := H1.out.1.c3.trans HP3.out
  clear hS
  cases b with
  | true =>
    by_cases hc : (decide (0 ≤ G) || N == 8) = true
    · have HZ : Hid (btw s X = (X.fail 44 P, false)) := by show _ = _; unfold btw; rw [HP.out, HB.out, HG.out, ← HN.out, hc]; rfl
      by_cases h0 : 0 ≤ G
      · have q1 : decide (0 ≤ G) = true := decide_eq_true h0
        clear hc h0
        go_wp2_with fail
        refine (fail_any R s (.slice a N c) X 44 P wA H1.out.1).mono ?_
        rintro e1 w2 ⟨rfl, k1, k2⟩
        have H2 : Hid (SxAt w2 R s (.slice a N c) (X.fail 44 P) ∧ Ch (fun q => q = R) w w2) := ⟨k1, H1.out.2.trans k2 (fun _ _ h => h)⟩
        clear k1 k2
        go_wp2_with fail
        go_ret
        exact ⟨by rw [HZ.out]; rfl, by rw [HZ.out]; exact H2.out.1, H2.out.2⟩
      · have q1 : decide (0 ≤ G) = false := decide_eq_false h0
        have q2 : (((N : Nat) : Int) == 8) = true := by rw [q1] at hc; simp at hc; simp [hc]
        clear hc h0
        go_wp2_with fail
        refine (fail_any R s (.slice a N c) X 44 P wA H1.out.1).mono ?_
        rintro e1 w2 ⟨rfl, k1, k2⟩
        have H2 : Hid (SxAt w2 R s (.slice a N c) (X.fail 44 P) ∧ Ch (fun q => q = R) w w2) := ⟨k1, H1.out.2.trans k2 (fun _ _ h => h)⟩
        clear k1 k2
        go_wp2_with fail
        go_ret
        exact ⟨by rw [HZ.out]; rfl, by rw [HZ.out]; exact H2.out.1, H2.out.2⟩
    · have hc2 : (decide (0 ≤ G) || N == 8) = false := by simpa using hc
      have HZ : Hid (btw s X = ({ X with gap := (N : Nat), p := P + 2 }, P + 2 == s.size)) := by show _ = _; unfold btw; rw [HP.out, HB.out, HG.out, ← HN.out, hc2]; rfl
      simp at hc2
      have q1 : decide (0 ≤ G) = false := decide_eq_false (by omega)
      have q2 : (((N : Nat) : Int) == 8) = false := by simp; omega
      have q3 : IntKind.i64.wrap ((P : Int) + 2) = (P : Int) + 2 := i64_s _ (by omega) (by have := HPS.out; have := HS.out; omega)
      clear hc hc2
      obtain ⟨w2, hw2⟩ : ∃ w2, w2 = wA.setCell ⟨R, 2, none⟩ (.int .i64 (N : Nat)) := ⟨_, rfl⟩
      have H2 : Hid (SxAt w2 R s (.slice a N c) { X with gap := (N : Nat) } ∧ Ch (fun q => q = R) w w2) := by rw [hw2]; exact ⟨H1.out.1.set 2 _ rfl rfl, H1.out.2.set ⟨R, 2, none⟩ _ rfl⟩
      have f2 := H1.out.1.fz 2
      have f3 := H2.out.1.fz 3
      have d3 : w2.cell? ⟨R, 3, none⟩ = some (.int .i64 (P : Nat)) := H2.out.1.c3.trans HP3.out
      obtain ⟨Q, hQ⟩ : ∃ Q : Nat, Q = P + 2 := ⟨_, rfl⟩
      have HQ : Hid (Q = P + 2) := hQ
      have q5 : (P : Int) + 2 = (Q : Int) := by omega
      rw [q5] at q3
      obtain ⟨w3, hw3⟩ : ∃ w3, w3 = w2.setCell ⟨R, 3, none⟩ (.int .i64 (Q : Nat)) := ⟨_, rfl⟩
      have H3 : Hid (SxAt w3 R s (.slice a N c) { X with gap := (N : Nat), p := Q } ∧ Ch (fun q => q = R) w w3) := by rw [hw3]; exact ⟨H2.out.1.set 3 _ rfl rfl, H2.out.2.set ⟨R, 3, none⟩ _ rfl⟩
      have HW2 : Hid (wA.setCell ⟨R, 2, none⟩ (.int .i64 (N : Nat)) = w2) := hw2.symm
      have HW3 : Hid (w2.setCell ⟨R, 3, none⟩ (.int .i64 (Q : Nat)) = w3) := hw3.symm
      clear hw2 hw3 hQ
      go_upto_region 7 with fail
      rw [HW2.out]
      clear f2 c1 c2 c3
      go_upto_region 8 with fail
      rw [HW3.out]
      refine MixH.start (fun A => SxAt A R s (.slice a N c) { X with gap := (N : Nat), p := Q } ∧ Ch (fun q => q = R) w A) (by kernel_rfl) ?_
      obtain ⟨wB, hwA⟩ : ∃ wB, wB = w3.drew := ⟨_, rfl⟩
      have bdr : Below w3.heap.size w3 wB := by rw [hwA]; exact (Below.refl _ _).drew
      have hS : SxAt wB R s (.slice a N c) { X with gap := (N : Nat), p := Q } ∧ Ch (fun q => q = R) w wB := ⟨H3.out.1.below bdr, H3.out.2.trans (Ch.ofBelow bdr) (fun _ _ h => h)⟩
      rw [← hwA]
      clear hwA bdr
      refine MixH.takes [true, true, true, false, true, true, true] 5 (by kernel_rfl) (by kernel_rfl) (by decide) (by kernel_rfl) hS (fun K hK => ?_)
      simp only [Mix.pick]
      repeat (go_big_quiet_step (fail))
      refine wpQuiet_nil (hK _ ?_)
      clear hK K
      refine MixH.take 4 3 _ (.int .i64 (Q : Nat)) rfl (by kernel_rfl) (by kernel_rfl) (by kernel_rfl) (by kernel_rfl) (yields_int (.tmp 62) rfl ⟨R, 3, none⟩ (.int .i64 (Q : Nat)) rfl rfl (fun A hA => hA.1.c3)) hS (fun a' ha => ?_)
      simp only [Act.put, List.setIfInBounds_toArray, List.set_cons_succ, List.set_cons_zero] at ha
      subst ha
      refine MixH.take 3 7 _ (.string s) rfl (by kernel_rfl) (by kernel_rfl) (by kernel_rfl) (by kernel_rfl) (yields_str (.tmp 66) rfl ⟨R, 0, none⟩ (.string s) rfl rfl (fun A hA => hA.1.c0)) hS (fun a' ha => ?_)
      simp only [Act.put, List.setIfInBounds_toArray, List.set_cons_succ, List.set_cons_zero] at ha
      subst ha
      refine MixH.takes [false, false, false, false, false, false, false, false, true, true, true] 0 (by kernel_rfl) (by kernel_rfl) (by decide) (by kernel_rfl) hS (fun K hK => ?_)
      simp only [Mix.pick]
      repeat (go_big_quiet_step (fail))
      refine wpQuiet_nil (hK _ ?_)
      clear hK K
      refine MixH.done (by kernel_rfl) ?_
      have H4 : Hid (SxAt wB R s (.slice a N c) { X with gap := (N : Nat), p := Q } ∧ Ch (fun q => q = R) w wB) := hS
      clear hS
      go_wp2_with fail
      go_ret
      exact ⟨by rw [HZ.out, ← HQ.out]; rw [← Bool.eq_iff_iff.2 (show ((Q : Int) == (s.size : Int)) = true ↔ (Q == s.size) = true by simp; omega)]; rfl, by rw [HZ.out, ← HQ.out]; exact H4.out.1, H4.out.2⟩
  | false =>
    have c0 := H1.out.1.c0
    go_upto_region 9 with fail
    refine MixH.start (fun A => SxAt A R s (.slice a N c) X ∧ Ch (fun q => q = R) w A) (by kernel_rfl) ?_
    obtain ⟨wB, hwA⟩ : ∃ wB, wB = wA.drew := ⟨_, rfl⟩
    have bdr : Below wA.heap.size wA wB := by rw [hwA]; exact (Below.refl _ _).drew
    have hS : SxAt wB R s (.slice a N c) X ∧ Ch (fun q => q = R) w wB := ⟨H1.out.1.below bdr, H1.out.2.trans (Ch.ofBelow bdr) (fun _ _ h => h)⟩
    rw [← hwA]
    clear hwA bdr
    refine MixH.takes [true, true, true, false, true, true, true] 5 (by kernel_rfl) (by kernel_rfl) (by decide) (by kernel_rfl) hS (fun K hK => ?_)
    simp only [Mix.pick]
    repeat (go_big_quiet_step (fail))
    refine wpQuiet_nil (hK _ ?_)
    clear hK K
    refine MixH.take 4 3 _ (.string s) rfl (by kernel_rfl) (by kernel_rfl) (by kernel_rfl) (by kernel_rfl) (yields_str (.tmp 73) rfl ⟨R, 0, none⟩ (.string s) rfl rfl (fun A hA => hA.1.c0)) hS (fun a' ha => ?_)
    simp only [Act.put, List.setIfInBounds_toArray, List.set_cons_succ, List.set_cons_zero] at ha
    subst ha
    refine MixH.take 3 7 _ (.int .i64 (P : Nat)) rfl (by kernel_rfl) (by kernel_rfl) (by kernel_rfl) (by kernel_rfl) (yields_int (.tmp 77) rfl ⟨R, 3, none⟩ (.int .i64 (P : Nat)) rfl rfl (fun A hA => hA.1.c3.trans HP3.out)) hS (fun a' ha => ?_)
    simp only [Act.put, List.setIfInBounds_toArray, List.set_cons_succ, List.set_cons_zero] at ha
    subst ha
    refine MixH.one [false, false, false, false, false, false, false, false, true] 2 8 _ rfl rfl (by kernel_rfl) (by kernel_rfl) (fun K hK => ?_)
    simp only [Mix.pick]
    refine wpList_sB (.tmp 74) (.tmp 78) rfl s P _ rfl rfl rfl HPS.out rfl ?_
    go_wp2_with fail
    refine ⟨rfl, hK _ _ hS ?_⟩
    clear hK K
    refine MixH.takes [false, false, false, false, false, false, false, false, false, true, true] 0 (by kernel_rfl) (by kernel_rfl) (by decide) (by kernel_rfl) hS (fun K hK => ?_)
    simp only [Mix.pick]
    repeat (go_big_quiet_step (fail))
    refine wpQuiet_nil (hK _ ?_)
    clear hK K
    refine MixH.done (by kernel_rfl) ?_
    have H2 : Hid (SxAt wB R s (.slice a N c) X ∧ Ch (fun q => q = R) w wB) := hS
    have d3 : wB.cell? ⟨R, 3, none⟩ = some (.int .i64 (P : Nat)) := H2.out.1.c3.trans HP3.out
    have f3 := H2.out.1.fz 3
    clear hS c0 c1 c2 c3
    by_cases hc : sB s P = 58
    · have q1 : (((sB s P : Nat) : Int) == 58) = true := by simp [hc]
      have q2 : (sB s P == 58) = true := by simp [hc]
      have HZ : Hid (btw s X = ({ X with p := P + 1 }, false)) := by show _ = _; unfold btw; rw [HP.out, HB.out, q2]; rfl
      have q3 : IntKind.i64.wrap ((P : Int) + 1) = (P : Int) + 1 := i64_s _ (by omega) (by have := HPS.out; have := HS.out; omega)
      obtain ⟨w3, hw3⟩ : ∃ w3, w3 = wB.setCell ⟨R, 3, none⟩ (.int .i64 (P + 1 : Nat)) := ⟨_, rfl⟩
      have H3 : Hid (SxAt w3 R s (.slice a N c) { X with p := P + 1 } ∧ Ch (fun q => q = R) w w3) := by rw [hw3]; exact ⟨H2.out.1.set 3 _ rfl rfl, H2.out.2.set ⟨R, 3, none⟩ _ rfl⟩
      have HW3 : Hid (wB.setCell ⟨R, 3, none⟩ (.int .i64 ((P : Int) + 1)) = w3) := by show _ = _; rw [hw3]; rfl
      clear hc hw3
      go_wp2_with fail
      go_ret
      rw [HW3.out]
      exact ⟨by rw [HZ.out]; rfl, by rw [HZ.out]; exact H3.out.1, H3.out.2⟩
    · have q1 : (((sB s P : Nat) : Int) == 58) = false := by simp; omega
      have q2 : (sB s P == 58) = false := by simp [hc]
      have HZ : Hid (btw s X = (X.fail 41 P, false)) := by show _ = _; unfold btw; rw [HP.out, HB.out, q2]; rfl
      clear hc
      go_wp2_with fail
      refine (fail_any R s (.slice a N c) X 41 P wB H2.out.1).mono ?_
      rintro e1 w3 ⟨rfl, k1, k2⟩
      have H3 : Hid (SxAt w3 R s (.slice a N c) (X.fail 41 P) ∧ Ch (fun q => q = R) w w3) := ⟨k1, H2.out.2.trans k2 (fun _ _ h => h)⟩
      clear k1 k2
      go_wp2_with fail
      go_ret
      exact ⟨by rw [HZ.out]; rfl, by rw [HZ.out]; exact H3.out.1, H3.out.2⟩
end Go.Proofs.YteldiggaooeeeaaGreatDoor
namespace Go.Proofs.YteldiggaooeeeaaGreatDoor
open Go.RowKit Go.Maps

set_option maxHeartbeats 1600000 in
set_option maxRecDepth 100000 in
theorem group_plain (R : Nat) (s : ByteArray) (lv : Value) (X : SX) (w : World) (h : SxAt w R s lv X) (hp : X.p ≤ s.size) (hs : s.size ≤ 1000) (hl : X.g.length ≤ 8) (hnd : ∀ i, sB s i ≠ 46) : Calls Tryz.prog 105 #[.pointer (some ⟨R, 0, none⟩)] w fun r w' => r = .returned (.bool (grp s X).2) ∧ (∃ lv', SxAt w' R s lv' (grp s X).1) ∧ Below R w w' := by
  obtain ⟨N, hN⟩ : ∃ N, N = X.g.length := ⟨_, rfl⟩
  obtain ⟨a, c, hlv⟩ := owns_shape h.own
  rw [← hN] at hlv hl
  subst hlv
  have HN : Hid (N = X.g.length) := hN
  have HN8 : Hid (N ≤ 8) := hl
  obtain ⟨P, hP⟩ : ∃ P, X.p = P := ⟨_, rfl⟩
  have HP : Hid (X.p = P) := hP
  have HP3 : Hid (some (Value.int .i64 ((X.p : Nat) : Int)) = some (Value.int .i64 ((P : Nat) : Int))) := by show _ = _; rw [hP]
  have HPS : Hid (P ≤ s.size) := by show P ≤ s.size; rw [← hP]; exact hp
  have HS : Hid (s.size ≤ 1000) := hs
  have HND : Hid (∀ i, sB s i ≠ 46) := hnd
  have HR0 : Hid (R ≤ w.heap.size) := Nat.le_of_lt h.lt
  have H0 : Hid (SxAt w R s (.slice a N c) X ∧ Below w.heap.size w w) := ⟨h, Below.refl _ _⟩
  obtain ⟨i0, hi, hz0, hz1, hz2⟩ := info_parts Tryz.infoInt
  have HI : Hid (Tryz.prog.info? 3 = some i0 ∧ i0.zero = some (.int .i64 0) ∧ i0.size = 1 ∧ i0.bytes = 8) := ⟨hi, hz0, hz1, hz2⟩
  have HTL : Hid (∀ q, tlB s X q = false) := fun q => by unfold tlB; have := hnd q; simp [this]
  have c0 := h.c0
  have c3 : w.cell? ⟨R, 3, none⟩ = some (.int .i64 (P : Nat)) := h.c3.trans HP3.out
  clear hi hz0 hz1 hz2 hN hl hP hp hs hnd h
  go_enter Tryz.func105, Tryz.ntmps105
  go_wp2
  go_loopw [3, 4] (fun qv nv wr => ∃ q n : Nat, P ≤ q ∧ q ≤ s.size ∧ qv = .int .i64 (q : Nat) ∧ nv = .int .i64 (n : Nat) ∧ Hid (scP s hxB q = scP s hxB P) ∧ Hid (n = hxN s P (min (q - P) 4)) ∧ w = wr) (fun qv _ _ => s.size - (intOf qv).toNat)
  case atStart => exact ⟨P, 0, Nat.le_refl _, HPS.out, rfl, rfl, rfl, by show _ = _; rw [Nat.sub_self, Nat.zero_min]; rfl, rfl⟩
  case round =>
    obtain ⟨q, n, hq1, hq2, rfl, rfl, HQ, HNN, rfl⟩ := hrel
    have HQB : Hid (P ≤ q ∧ q ≤ s.size) := ⟨hq1, hq2⟩
    have HN6 : Hid (n < 65536) := by show n < 65536; rw [HNN.out]; exact hxN_small (Nat.min_le_right _ _)
    clear hq1 hq2
    by_cases hlt : q < s.size
    · have p1 : decide ((q : Int) < (s.size : Int)) = true := decide_eq_true (by omega)
      have p2 : decide (q < s.size) = true := decide_eq_true hlt
      have w1 : IntKind.i64.wrap ((q : Int) + 1) = (q : Int) + 1 := i64_s _ (by omega) (by have := HS.out; omega)
      have w2 : IntKind.i64.wrap ((q : Int) - (P : Int)) = (q : Int) - (P : Int) := i64_s _ (by have := HS.out; have := HPS.out; omega) (by have := HS.out; omega)
      have HLT : Hid (q < s.size) := hlt
      clear hlt
      obtain ⟨z, hz⟩ : ∃ z, wth (sB s q) = z := ⟨_, rfl⟩
      have HZ0 : Hid (wth (sB s q) = z) := hz
      clear hz
      go_wp2_with (refine wpList_sB (.tmp 27) (.tmp 28) rfl s q _ rfl rfl rfl HLT.out rfl ?_)
      refine (worth_any (sB s q) w (sB_lt s q)).mono ?_
      rintro e1 wz ⟨rfl, rfl⟩
      rw [HZ0.out]
      by_cases hzn : 0 ≤ z
      · have z1 : decide (0 ≤ z) = true := decide_eq_true hzn
        obtain ⟨d, hd⟩ : ∃ d : Nat, z = (d : Int) := ⟨z.toNat, by omega⟩
        subst hd
        have HB : Hid (hxB (sB s q) = true) := by show _ = _; unfold hxB; rw [HZ0.out]; exact z1
        have HD : Hid (d ≤ 15) := by have := wth_le (sB s q); have := HZ0.out; show d ≤ 15; omega
        clear hzn
        by_cases h4 : q - P < 4
        · have d4 : decide ((q : Int) - (P : Int) < 4) = true := decide_eq_true (by have := HQB.out; omega)
          have H4 : Hid (q - P < 4) := h4
          have x1 : IntKind.i64.wrap (16 * (n : Int)) = 16 * (n : Int) := by rw [IntKind.wrap_i64]; have := HN6.out; omega
          have HX2 : Hid (16 * (n : Int) + (d : Int) ≤ 1048591) := by have := HN6.out; have := HD.out; show _ ≤ _; omega
          have x2 : IntKind.i64.wrap (16 * (n : Int) + (d : Int)) = 16 * (n : Int) + (d : Int) := by rw [IntKind.wrap_i64]; have := HX2.out; omega
          clear h4
          go_wp2_with (refine wpList_sB (.tmp 45) (.tmp 46) rfl s q _ rfl rfl rfl HLT.out rfl ?_)
          refine (worth_any (sB s q) w (sB_lt s q)).mono ?_
          rintro e1 wz ⟨rfl, rfl⟩
          rw [HZ0.out]
          go_wp2
          go_roundw
          case rel =>
            refine ⟨q + 1, 16 * n + d, by have := HQB.out; omega, HLT.out, by simp, by simp, ?_, ?_, by first | rfl | trivial⟩
            · show _ = _; rw [← scP_step HLT.out HB.out]; exact HQ.out
            · show _ = _
              have h5 := H4.out
              have h6 := HQB.out
              rw [show min (q + 1 - P) 4 = (q - P) + 1 by omega]
              unfold hxN
              rw [show P + (q - P) = q by omega, HZ0.out, HNN.out, show min (q - P) 4 = q - P by omega]
              rfl
          case measure => have := HLT.out; simp [intOf]; omega
        · have d4 : decide ((q : Int) - (P : Int) < 4) = false := decide_eq_false (by have := HQB.out; omega)
          have H4 : Hid (4 ≤ q - P) := by show 4 ≤ q - P; omega
          clear h4
          go_wp2
          go_roundw
          case rel =>
            refine ⟨q + 1, n, by have := HQB.out; omega, HLT.out, by simp, rfl, ?_, ?_, by first | rfl | trivial⟩
            · show _ = _; rw [← scP_step HLT.out HB.out]; exact HQ.out
            · show _ = _
              have h5 := H4.out
              rw [HNN.out, show min (q + 1 - P) 4 = min (q - P) 4 by omega]
          case measure => have := HLT.out; simp [intOf]; omega
      · have z1 : decide (0 ≤ z) = false := decide_eq_false hzn
        have HQE : Hid (scP s hxB P = q) := by show _ = _; rw [← HQ.out]; exact scP_stop (by unfold hxB; rw [HZ0.out, z1]; simp)
        have nd : (((sB s q : Nat) : Int) == 46) = false := by have := HND.out q; simp; omega
        clear hzn
        have HG0 : Hid (grp s X = grpq s X q) := by show _ = _; unfold grp; rw [HP.out, HQE.out]
        by_cases hqp : q = P
        · have e1 : ((q : Int) == (P : Int)) = true := by simp [hqp]
          have e2 : (q == P) = true := by simp [hqp]
          have HZ : Hid (grp s X = (X.fail (hrE s P).1 (hrE s P).2, true)) := by show _ = _; rw [HG0.out]; unfold grpq; rw [HP.out, e2]; rfl
          clear hqp
          go_upto_region 8 with fail
          refine MixH.start (fun A => SxAt A R s (.slice a N c) X ∧ Below w.heap.size w A) (by kernel_rfl) ?_
          obtain ⟨wA, hwA⟩ : ∃ wA, wA = w.drew := ⟨_, rfl⟩
          have bdr : Below w.heap.size w wA := by rw [hwA]; exact (Below.refl _ _).drew
          have hS : SxAt wA R s (.slice a N c) X ∧ Below w.heap.size w wA := ⟨H0.out.1.below bdr, bthen H0.out.2 bdr⟩
          rw [← hwA]
          clear hwA bdr
          refine MixH.takes [true, true, true, false, true, true, true] 8 (by kernel_rfl) (by kernel_rfl) (by decide) (by kernel_rfl) hS (fun K hK => ?_)
          simp only [Mix.pick]
          repeat (go_big_quiet_step (fail))
          refine wpQuiet_nil (hK _ ?_)
          clear hK K
          refine MixH.take 7 3 _ (.string s) rfl (by kernel_rfl) (by kernel_rfl) (by kernel_rfl) (by kernel_rfl) (yields_str (.tmp 61) rfl ⟨R, 0, none⟩ (.string s) rfl rfl (fun A hA => hA.1.c0)) hS (fun a' ha => ?_)
          simp only [Act.put, List.setIfInBounds_toArray, List.set_cons_succ, List.set_cons_zero] at ha
          subst ha
          refine MixH.take 6 7 _ (.int .i64 (P : Nat)) rfl (by kernel_rfl) (by kernel_rfl) (by kernel_rfl) (by kernel_rfl) (yields_int (.tmp 65) rfl ⟨R, 3, none⟩ (.int .i64 (P : Nat)) rfl rfl (fun A hA => hA.1.c3.trans HP3.out)) hS (fun a' ha => ?_)
          simp only [Act.put, List.setIfInBounds_toArray, List.set_cons_succ, List.set_cons_zero] at ha
          subst ha
          refine MixH.one [false, false, false, false, false, false, false, false, true] 5 8 _ rfl rfl (by kernel_rfl) (by kernel_rfl) (fun K hK => ?_)
          simp only [Mix.pick]
          go_wp2_with fail
          refine Calls.mono (here_any s P wA) ?_
          rintro e1 wz ⟨rfl, rfl⟩
          go_wp2_with fail
          refine ⟨rfl, hK _ _ hS ?_⟩
          clear hK K
          refine MixH.takes [false, false, false, false, false, false, false, false, false, true, true, true, true, true] 0 (by kernel_rfl) (by kernel_rfl) (by decide) (by kernel_rfl) hS (fun K hK => ?_)
          simp only [Mix.pick]
          repeat (go_big_quiet_step (fail))
          refine wpQuiet_nil (hK _ ?_)
          clear hK K
          refine MixH.done (by kernel_rfl) ?_
          have H1 : Hid (SxAt wA R s (.slice a N c) X ∧ Below w.heap.size w wA) := hS
          clear hS c0 c3
          go_wp2_with fail
          refine (fail_any R s (.slice a N c) X (hrE s P).1 (hrE s P).2 wA H1.out.1).mono ?_
          rintro e3 w3 ⟨rfl, k1, k2⟩
          have H2 : Hid (SxAt w3 R s (.slice a N c) (X.fail (hrE s P).1 (hrE s P).2) ∧ Below R w w3) := ⟨k1, (H1.out.2.mono HR0.out).trans (k2.below (fun x hx => by omega) (Nat.le_of_lt H1.out.1.lt))⟩
          clear k1 k2
          go_wp2_with fail
          go_ret
          exact ⟨by rw [HZ.out]; rfl, ⟨_, by rw [HZ.out]; exact H2.out.1⟩, H2.out.2⟩
        · have e1 : ((q : Int) == (P : Int)) = false := by simp; omega
          have e2 : (q == P) = false := by simp [hqp]
          have HZ : Hid (grp s X = if decide (rmN X < N + 1) then (X.fail 44 P, true) else if decide (4 < q - P) then (X.fail 43 P, true) else ({ X with g := X.g ++ [hxN s P (q - P)], p := q }, q == s.size)) := by show _ = _; rw [HG0.out]; unfold grpq; rw [HP.out, e2, HTL.out, ← HN.out]; rfl
          have HQP : Hid (P < q) := by have := HQB.out; show P < q; omega
          have w5 : IntKind.i64.wrap ((N : Int) + 1) = (N : Int) + 1 := i64_s _ (by omega) (by have := HN8.out; omega)
          obtain ⟨m, hm⟩ : ∃ m, rmN X = m := ⟨_, rfl⟩
          have HM : Hid (rmN X = m) := hm
          clear hqp hm
          go_upto_region 15 with (refine wpList_sB (.tmp 85) (.tmp 86) rfl s q _ rfl rfl rfl HLT.out rfl ?_)
          refine MixH.start (fun A => SxAt A R s (.slice a N c) X ∧ Below w.heap.size w A) (by kernel_rfl) ?_
          obtain ⟨wA, hwA⟩ : ∃ wA, wA = w.drew := ⟨_, rfl⟩
          have bdr : Below w.heap.size w wA := by rw [hwA]; exact (Below.refl _ _).drew
          have hS : SxAt wA R s (.slice a N c) X ∧ Below w.heap.size w wA := ⟨H0.out.1.below bdr, bthen H0.out.2 bdr⟩
          rw [← hwA]
          clear hwA bdr
          refine MixH.takes [true, true, true, false, false, true, false, true] 5 (by kernel_rfl) (by kernel_rfl) (by decide) (by kernel_rfl) hS (fun K hK => ?_)
          simp only [Mix.pick]
          repeat (go_big_quiet_step (fail))
          refine wpQuiet_nil (hK _ ?_)
          clear hK K
          refine MixH.take 4 3 _ (.slice a N c) rfl (by kernel_rfl) (by kernel_rfl) (by kernel_rfl) (by kernel_rfl) (yields_lst (.tmp 100) rfl ⟨R, 1, none⟩ (.slice a N c) rfl rfl (fun A hA => hA.1.c1)) hS (fun a' ha => ?_)
          simp only [Act.put, List.setIfInBounds_toArray, List.set_cons_succ, List.set_cons_zero] at ha
          subst ha
          refine MixH.takes [false, false, false, false, true, false, true] 2 (by kernel_rfl) (by kernel_rfl) (by decide) (by kernel_rfl) hS (fun K hK => ?_)
          simp only [Mix.pick]
          repeat (go_big_quiet_step (fail))
          refine wpQuiet_nil (hK _ ?_)
          clear hK K
          refine MixH.one [false, false, false, false, false, false, false, false, true] 1 8 _ rfl rfl (by kernel_rfl) (by kernel_rfl) (fun K hK => ?_)
          simp only [Mix.pick]
          go_wp2_with fail
          refine Calls.mono (room_any R s (.slice a N c) X wA hS.1) ?_
          rintro e3 wz ⟨rfl, rfl⟩
          rw [HM.out]
          go_wp2_with fail
          refine ⟨rfl, hK _ _ hS ?_⟩
          clear hK K
          refine MixH.takes [false, false, false, false, false, false, false, false, false, true] 0 (by kernel_rfl) (by kernel_rfl) (by decide) (by kernel_rfl) hS (fun K hK => ?_)
          simp only [Mix.pick]
          repeat (go_big_quiet_step (fail))
          refine wpQuiet_nil (hK _ ?_)
          clear hK K
          refine MixH.done (by kernel_rfl) ?_
          have H1 : Hid (SxAt wA R s (.slice a N c) X ∧ Below w.heap.size w wA) := hS
          clear hS c0 c3
          have c0 := H1.out.1.c0
          have c1 := H1.out.1.c1
          have c3 : wA.cell? ⟨R, 3, none⟩ = some (.int .i64 (P : Nat)) := H1.out.1.c3.trans HP3.out
          by_cases hm : m < N + 1
          · have m1 : decide ((m : Int) < (N : Int) + 1) = true := decide_eq_true (by omega)
            have m2 : decide ((m : Int) ≤ (N : Int)) = true := decide_eq_true (by omega)
            have m3 : decide (m ≤ N) = true := decide_eq_true (by omega)
            have m4 : decide (m < N + 1) = true := decide_eq_true (by omega)
            have m5 : (m : Int) < (N : Int) + 1 := by omega
            have HZ2 : Hid (grp s X = (X.fail 44 P, true)) := by show _ = _; rw [HZ.out, HM.out, decide_eq_true hm]; rfl
            clear hm
            go_wp2_with fail
            refine (fail_any R s (.slice a N c) X 44 P wA H1.out.1).mono ?_
            rintro e3 w3 ⟨rfl, k1, k2⟩
            have H2 : Hid (SxAt w3 R s (.slice a N c) (X.fail 44 P) ∧ Below R w w3) := ⟨k1, (H1.out.2.mono HR0.out).trans (k2.below (fun x hx => by omega) (Nat.le_of_lt H1.out.1.lt))⟩
            clear k1 k2
            go_wp2_with fail
            go_ret
            exact ⟨by rw [HZ2.out]; rfl, ⟨_, by rw [HZ2.out]; exact H2.out.1⟩, H2.out.2⟩
          · have m1 : decide ((m : Int) < (N : Int) + 1) = false := decide_eq_false (by omega)
            have m2 : decide ((m : Int) ≤ (N : Int)) = false := decide_eq_false (by omega)
            have m3 : decide (m ≤ N) = false := decide_eq_false (by omega)
            have m4 : decide (m < N + 1) = false := decide_eq_false (by omega)
            have m5 : ¬ (m : Int) < (N : Int) + 1 := by omega
            have HZ2 : Hid (grp s X = if decide (4 < q - P) then (X.fail 43 P, true) else ({ X with g := X.g ++ [hxN s P (q - P)], p := q }, q == s.size)) := by show _ = _; rw [HZ.out, HM.out, decide_eq_false hm]; rfl
            clear hm
            by_cases h4 : 4 < q - P
            · have d4 : decide ((4 : Int) < (q : Int) - (P : Int)) = true := decide_eq_true (by omega)
              have HZ3 : Hid (grp s X = (X.fail 43 P, true)) := by show _ = _; rw [HZ2.out, decide_eq_true h4]; rfl
              clear h4
              go_wp2_with fail
              refine (fail_any R s (.slice a N c) X 43 P wA H1.out.1).mono ?_
              rintro e3 w3 ⟨rfl, k1, k2⟩
              have H2 : Hid (SxAt w3 R s (.slice a N c) (X.fail 43 P) ∧ Below R w w3) := ⟨k1, (H1.out.2.mono HR0.out).trans (k2.below (fun x hx => by omega) (Nat.le_of_lt H1.out.1.lt))⟩
              clear k1 k2
              go_wp2_with fail
              go_ret
              exact ⟨by rw [HZ3.out]; rfl, ⟨_, by rw [HZ3.out]; exact H2.out.1⟩, H2.out.2⟩
            · have d4 : decide ((4 : Int) < (q : Int) - (P : Int)) = false := decide_eq_false (by have := HQB.out; omega)
              have HZ3 : Hid (grp s X = ({ X with g := X.g ++ [n], p := q }, q == s.size)) := by
                show _ = _
                rw [HZ2.out, decide_eq_false h4, HNN.out, show min (q - P) 4 = q - P by omega]; rfl
              clear h4
              have HOA : Hid (wA.ownsRow (R + 1) 3 1 (.slice a N c) N (X.g.map fun n => Value.int .i64 (n : Nat))) := by have := H1.out.1.own; rw [← HN.out] at this; exact this
              go_wp2_with (at_builtin; refine wpList_append_own_at _ rfl (.tmp 188) (.tmp 190) 145 rfl (R + 1) 3 i0 (.int .i64 0) 1 8 Tryz.underlying145 HI.out.1 HI.out.2.1 HI.out.2.2.1 HI.out.2.2.2 rfl (by decide) _ _ _ rfl (HOA.out.alloc _) ⟨wA.heap.size, 0, none⟩ 1 1 [.int .i64 (n : Nat)] rfl rfl (cellsOne _ _ _) (by intro u hu; simp at hu; subst hu; rfl) (by have := HN8.out; unfold maxLen; omega) (by have := HN8.out; omega) (by have := H1.out.1.lt; simp; omega) ?_)
              intro v2 w2 ho2 hg2 _ _
              obtain ⟨N1, hN1⟩ : ∃ N1, N1 = N + 1 := ⟨_, rfl⟩
              have HN1 : Hid (N1 = N + 1) := hN1
              rw [← hN1] at ho2
              obtain ⟨a2, c2, hv2⟩ := owns_shape ho2
              subst hv2
              clear hN1
              have k2 : Ch (fun g => (Value.slice a N c).ownBlock = some g) (wA.alloc (.cells #[.int .i64 (n : Nat)] 3)) w2 := Ch.ofGrown hg2
              have hne : ∀ g, (Value.slice a N c).ownBlock = some g → R + 1 ≤ g := fun g hg => (HOA.out.lt g hg).1
              have kb : w2.heap[R]? = some (.cells (sxC s (.slice a N c) X) 147 (0, 0)) := by
                have h1 := H1.out.1.lt
                rw [k2.block R (by simp; omega) (fun h => by have := hne R h; omega), Below.heap_alloc wA _ R h1]
                exact H1.out.1.blk
              have HK : Hid (w2.heap[R]? = some (.cells (sxC s (.slice a N c) X) 147 (0, 0))) := kb
              have HO2 : Hid (w2.ownsRow (R + 1) 3 1 (.slice a2 N1 c2) N1 ((X.g ++ [n]).map fun n => Value.int .i64 (n : Nat))) := by show w2.ownsRow _ _ _ _ _ _; rw [List.map_append]; exact ho2
              have HB2 : Hid (Below R w w2) := (H1.out.2.mono HR0.out).trans ((((Below.refl wA.heap.size wA).alloc (Nat.le_refl _) _).mono (Nat.le_of_lt H1.out.1.lt)).trans (k2.below (fun x hx => by have := hne x hx; omega) (by have := H1.out.1.lt; simp; omega)))
              have f1 : w2.frozen? ⟨R, 1, none⟩ = false := by simp [World.frozen?, kb]
              have d1 : w2.cell? ⟨R, 1, none⟩ = some (.slice a N c) := by simp [World.cell?, kb, sxC]
              have H2 : Hid (SxAt (w2.setCell ⟨R, 1, none⟩ (.slice a2 N1 c2)) R s (.slice a2 N1 c2) { X with g := X.g ++ [n] }) := by
                refine ⟨?_, ?_⟩
                · rw [heap_setCell_same w2 R 1 _ _ (.slice a2 N1 c2) kb]; rfl
                · refine ((Ch.refl (fun q => q = R) w2).set ⟨R, 1, none⟩ (.slice a2 N1 c2) rfl).owns ?_ (fun g h1 h2 => by have := (HO2.out.lt g h1).1; omega)
                  have := HO2.out
                  rw [HN1.out, HN.out] at this
                  rw [HN1.out, HN.out]
                  show w2.ownsRow _ _ _ _ (X.g ++ [n]).length _
                  rw [List.length_append]
                  exact this
              obtain ⟨w3, hw3⟩ : ∃ w3, w3 = w2.setCell ⟨R, 1, none⟩ (.slice a2 N1 c2) := ⟨_, rfl⟩
              have HW3 : Hid (w2.setCell ⟨R, 1, none⟩ (.slice a2 N1 c2) = w3) := hw3.symm
              have H3 : Hid (SxAt w3 R s (.slice a2 N1 c2) { X with g := X.g ++ [n] } ∧ Below R w w3) := by rw [hw3]; exact ⟨H2.out, HB2.out.setCell (Nat.le_refl _) _⟩
              have f3 := H3.out.1.fz 3
              have d3 : w3.cell? ⟨R, 3, none⟩ = some (.int .i64 (P : Nat)) := H3.out.1.c3.trans HP3.out
              obtain ⟨w4, hw4⟩ : ∃ w4, w4 = w3.setCell ⟨R, 3, none⟩ (.int .i64 (q : Nat)) := ⟨_, rfl⟩
              have HW4 : Hid (w3.setCell ⟨R, 3, none⟩ (.int .i64 (q : Nat)) = w4) := hw4.symm
              have H4 : Hid (SxAt w4 R s (.slice a2 N1 c2) { X with g := X.g ++ [n], p := q } ∧ Below R w w4) := by rw [hw4]; exact ⟨H3.out.1.set 3 _ rfl rfl, H3.out.2.setCell (Nat.le_refl _) _⟩
              have d0 := H4.out.1.c0
              clear ho2 hg2 k2 hne kb H2 hw3 hw4 c0 c1 c3
              go_upto_region 30 with fail
              rw [HW3.out]
              go_upto_region 31 with fail
              rw [HW4.out]
              go_wp2_with fail
              go_ret
              exact ⟨by rw [HZ3.out]; rw [← Bool.eq_iff_iff.2 (show ((q : Int) == (s.size : Int)) = true ↔ (q == s.size) = true by simp; omega)]; rfl, ⟨_, by rw [HZ3.out]; exact H4.out.1⟩, H4.out.2⟩
    · have p1 : decide ((q : Int) < (s.size : Int)) = false := decide_eq_false (by omega)
      have p2 : decide (q < s.size) = false := decide_eq_false hlt
      have w2 : IntKind.i64.wrap ((q : Int) - (P : Int)) = (q : Int) - (P : Int) := i64_s _ (by have := HS.out; have := HPS.out; have := HQB.out; omega) (by have := HS.out; have := HQB.out; omega)
      have HQE : Hid (scP s hxB P = q) := by show _ = _; rw [← HQ.out]; exact scP_stop (by rw [p2]; simp)
      clear hlt
      have HG0 : Hid (grp s X = grpq s X q) := by show _ = _; unfold grp; rw [HP.out, HQE.out]
      by_cases hqp : q = P
      · have e1 : ((q : Int) == (P : Int)) = true := by simp [hqp]
        have e2 : (q == P) = true := by simp [hqp]
        have HZ : Hid (grp s X = (X.fail (hrE s P).1 (hrE s P).2, true)) := by show _ = _; rw [HG0.out]; unfold grpq; rw [HP.out, e2]; rfl
        clear hqp
        go_upto_region 8 with fail
        refine MixH.start (fun A => SxAt A R s (.slice a N c) X ∧ Below w.heap.size w A) (by kernel_rfl) ?_
        obtain ⟨wA, hwA⟩ : ∃ wA, wA = w.drew := ⟨_, rfl⟩
        have bdr : Below w.heap.size w wA := by rw [hwA]; exact (Below.refl _ _).drew
        have hS : SxAt wA R s (.slice a N c) X ∧ Below w.heap.size w wA := ⟨H0.out.1.below bdr, bthen H0.out.2 bdr⟩
        rw [← hwA]
        clear hwA bdr
        refine MixH.takes [true, true, true, false, true, true, true] 8 (by kernel_rfl) (by kernel_rfl) (by decide) (by kernel_rfl) hS (fun K hK => ?_)
        simp only [Mix.pick]
        repeat (go_big_quiet_step (fail))
        refine wpQuiet_nil (hK _ ?_)
        clear hK K
        refine MixH.take 7 3 _ (.string s) rfl (by kernel_rfl) (by kernel_rfl) (by kernel_rfl) (by kernel_rfl) (yields_str (.tmp 61) rfl ⟨R, 0, none⟩ (.string s) rfl rfl (fun A hA => hA.1.c0)) hS (fun a' ha => ?_)
        simp only [Act.put, List.setIfInBounds_toArray, List.set_cons_succ, List.set_cons_zero] at ha
        subst ha
        refine MixH.take 6 7 _ (.int .i64 (P : Nat)) rfl (by kernel_rfl) (by kernel_rfl) (by kernel_rfl) (by kernel_rfl) (yields_int (.tmp 65) rfl ⟨R, 3, none⟩ (.int .i64 (P : Nat)) rfl rfl (fun A hA => hA.1.c3.trans HP3.out)) hS (fun a' ha => ?_)
        simp only [Act.put, List.setIfInBounds_toArray, List.set_cons_succ, List.set_cons_zero] at ha
        subst ha
        refine MixH.one [false, false, false, false, false, false, false, false, true] 5 8 _ rfl rfl (by kernel_rfl) (by kernel_rfl) (fun K hK => ?_)
        simp only [Mix.pick]
        go_wp2_with fail
        refine Calls.mono (here_any s P wA) ?_
        rintro e1 wz ⟨rfl, rfl⟩
        go_wp2_with fail
        refine ⟨rfl, hK _ _ hS ?_⟩
        clear hK K
        refine MixH.takes [false, false, false, false, false, false, false, false, false, true, true, true, true, true] 0 (by kernel_rfl) (by kernel_rfl) (by decide) (by kernel_rfl) hS (fun K hK => ?_)
        simp only [Mix.pick]
        repeat (go_big_quiet_step (fail))
        refine wpQuiet_nil (hK _ ?_)
        clear hK K
        refine MixH.done (by kernel_rfl) ?_
        have H1 : Hid (SxAt wA R s (.slice a N c) X ∧ Below w.heap.size w wA) := hS
        clear hS c0 c3
        go_wp2_with fail
        refine (fail_any R s (.slice a N c) X (hrE s P).1 (hrE s P).2 wA H1.out.1).mono ?_
        rintro e3 w3 ⟨rfl, k1, k2⟩
        have H2 : Hid (SxAt w3 R s (.slice a N c) (X.fail (hrE s P).1 (hrE s P).2) ∧ Below R w w3) := ⟨k1, (H1.out.2.mono HR0.out).trans (k2.below (fun x hx => by omega) (Nat.le_of_lt H1.out.1.lt))⟩
        clear k1 k2
        go_wp2_with fail
        go_ret
        exact ⟨by rw [HZ.out]; rfl, ⟨_, by rw [HZ.out]; exact H2.out.1⟩, H2.out.2⟩
      · have e1 : ((q : Int) == (P : Int)) = false := by simp; omega
        have e2 : (q == P) = false := by simp [hqp]
        have HZ : Hid (grp s X = if decide (rmN X < N + 1) then (X.fail 44 P, true) else if decide (4 < q - P) then (X.fail 43 P, true) else ({ X with g := X.g ++ [hxN s P (q - P)], p := q }, q == s.size)) := by show _ = _; rw [HG0.out]; unfold grpq; rw [HP.out, e2, HTL.out, ← HN.out]; rfl
        have HQP : Hid (P < q) := by have := HQB.out; show P < q; omega
        have w5 : IntKind.i64.wrap ((N : Int) + 1) = (N : Int) + 1 := i64_s _ (by omega) (by have := HN8.out; omega)
        obtain ⟨m, hm⟩ : ∃ m, rmN X = m := ⟨_, rfl⟩
        have HM : Hid (rmN X = m) := hm
        clear hqp hm
        go_upto_region 15 with fail
        refine MixH.start (fun A => SxAt A R s (.slice a N c) X ∧ Below w.heap.size w A) (by kernel_rfl) ?_
        obtain ⟨wA, hwA⟩ : ∃ wA, wA = w.drew := ⟨_, rfl⟩
        have bdr : Below w.heap.size w wA := by rw [hwA]; exact (Below.refl _ _).drew
        have hS : SxAt wA R s (.slice a N c) X ∧ Below w.heap.size w wA := ⟨H0.out.1.below bdr, bthen H0.out.2 bdr⟩
        rw [← hwA]
        clear hwA bdr
        refine MixH.takes [true, true, true, false, false, true, false, true] 5 (by kernel_rfl) (by kernel_rfl) (by decide) (by kernel_rfl) hS (fun K hK => ?_)
        simp only [Mix.pick]
        repeat (go_big_quiet_step (fail))
        refine wpQuiet_nil (hK _ ?_)
        clear hK K
        refine MixH.take 4 3 _ (.slice a N c) rfl (by kernel_rfl) (by kernel_rfl) (by kernel_rfl) (by kernel_rfl) (yields_lst (.tmp 100) rfl ⟨R, 1, none⟩ (.slice a N c) rfl rfl (fun A hA => hA.1.c1)) hS (fun a' ha => ?_)
        simp only [Act.put, List.setIfInBounds_toArray, List.set_cons_succ, List.set_cons_zero] at ha
        subst ha
        refine MixH.takes [false, false, false, false, true, false, true] 2 (by kernel_rfl) (by kernel_rfl) (by decide) (by kernel_rfl) hS (fun K hK => ?_)
        simp only [Mix.pick]
        repeat (go_big_quiet_step (fail))
        refine wpQuiet_nil (hK _ ?_)
        clear hK K
        refine MixH.one [false, false, false, false, false, false, false, false, true] 1 8 _ rfl rfl (by kernel_rfl) (by kernel_rfl) (fun K hK => ?_)
        simp only [Mix.pick]
        go_wp2_with fail
        refine Calls.mono (room_any R s (.slice a N c) X wA hS.1) ?_
        rintro e3 wz ⟨rfl, rfl⟩
        rw [HM.out]
        go_wp2_with fail
        refine ⟨rfl, hK _ _ hS ?_⟩
        clear hK K
        refine MixH.takes [false, false, false, false, false, false, false, false, false, true] 0 (by kernel_rfl) (by kernel_rfl) (by decide) (by kernel_rfl) hS (fun K hK => ?_)
        simp only [Mix.pick]
        repeat (go_big_quiet_step (fail))
        refine wpQuiet_nil (hK _ ?_)
        clear hK K
        refine MixH.done (by kernel_rfl) ?_
        have H1 : Hid (SxAt wA R s (.slice a N c) X ∧ Below w.heap.size w wA) := hS
        clear hS c0 c3
        have c0 := H1.out.1.c0
        have c1 := H1.out.1.c1
        have c3 : wA.cell? ⟨R, 3, none⟩ = some (.int .i64 (P : Nat)) := H1.out.1.c3.trans HP3.out
        by_cases hm : m < N + 1
        · have m1 : decide ((m : Int) < (N : Int) + 1) = true := decide_eq_true (by omega)
          have m2 : decide ((m : Int) ≤ (N : Int)) = true := decide_eq_true (by omega)
          have m3 : decide (m ≤ N) = true := decide_eq_true (by omega)
          have m4 : decide (m < N + 1) = true := decide_eq_true (by omega)
          have m5 : (m : Int) < (N : Int) + 1 := by omega
          have HZ2 : Hid (grp s X = (X.fail 44 P, true)) := by show _ = _; rw [HZ.out, HM.out, decide_eq_true hm]; rfl
          clear hm
          go_wp2_with fail
          refine (fail_any R s (.slice a N c) X 44 P wA H1.out.1).mono ?_
          rintro e3 w3 ⟨rfl, k1, k2⟩
          have H2 : Hid (SxAt w3 R s (.slice a N c) (X.fail 44 P) ∧ Below R w w3) := ⟨k1, (H1.out.2.mono HR0.out).trans (k2.below (fun x hx => by omega) (Nat.le_of_lt H1.out.1.lt))⟩
          clear k1 k2
          go_wp2_with fail
          go_ret
          exact ⟨by rw [HZ2.out]; rfl, ⟨_, by rw [HZ2.out]; exact H2.out.1⟩, H2.out.2⟩
        · have m1 : decide ((m : Int) < (N : Int) + 1) = false := decide_eq_false (by omega)
          have m2 : decide ((m : Int) ≤ (N : Int)) = false := decide_eq_false (by omega)
          have m3 : decide (m ≤ N) = false := decide_eq_false (by omega)
          have m4 : decide (m < N + 1) = false := decide_eq_false (by omega)
          have m5 : ¬ (m : Int) < (N : Int) + 1 := by omega
          have HZ2 : Hid (grp s X = if decide (4 < q - P) then (X.fail 43 P, true) else ({ X with g := X.g ++ [hxN s P (q - P)], p := q }, q == s.size)) := by show _ = _; rw [HZ.out, HM.out, decide_eq_false hm]; rfl
          clear hm
          by_cases h4 : 4 < q - P
          · have d4 : decide ((4 : Int) < (q : Int) - (P : Int)) = true := decide_eq_true (by omega)
            have HZ3 : Hid (grp s X = (X.fail 43 P, true)) := by show _ = _; rw [HZ2.out, decide_eq_true h4]; rfl
            clear h4
            go_wp2_with fail
            refine (fail_any R s (.slice a N c) X 43 P wA H1.out.1).mono ?_
            rintro e3 w3 ⟨rfl, k1, k2⟩
            have H2 : Hid (SxAt w3 R s (.slice a N c) (X.fail 43 P) ∧ Below R w w3) := ⟨k1, (H1.out.2.mono HR0.out).trans (k2.below (fun x hx => by omega) (Nat.le_of_lt H1.out.1.lt))⟩
            clear k1 k2
            go_wp2_with fail
            go_ret
            exact ⟨by rw [HZ3.out]; rfl, ⟨_, by rw [HZ3.out]; exact H2.out.1⟩, H2.out.2⟩
          · have d4 : decide ((4 : Int) < (q : Int) - (P : Int)) = false := decide_eq_false (by have := HQB.out; omega)
            have HZ3 : Hid (grp s X = ({ X with g := X.g ++ [n], p := q }, q == s.size)) := by
              show _ = _
              rw [HZ2.out, decide_eq_false h4, HNN.out, show min (q - P) 4 = q - P by omega]; rfl
            clear h4
            have HOA : Hid (wA.ownsRow (R + 1) 3 1 (.slice a N c) N (X.g.map fun n => Value.int .i64 (n : Nat))) := by have := H1.out.1.own; rw [← HN.out] at this; exact this
            go_wp2_with (at_builtin; refine wpList_append_own_at _ rfl (.tmp 188) (.tmp 190) 145 rfl (R + 1) 3 i0 (.int .i64 0) 1 8 Tryz.underlying145 HI.out.1 HI.out.2.1 HI.out.2.2.1 HI.out.2.2.2 rfl (by decide) _ _ _ rfl (HOA.out.alloc _) ⟨wA.heap.size, 0, none⟩ 1 1 [.int .i64 (n : Nat)] rfl rfl (cellsOne _ _ _) (by intro u hu; simp at hu; subst hu; rfl) (by have := HN8.out; unfold maxLen; omega) (by have := HN8.out; omega) (by have := H1.out.1.lt; simp; omega) ?_)
            intro v2 w2 ho2 hg2 _ _
            obtain ⟨N1, hN1⟩ : ∃ N1, N1 = N + 1 := ⟨_, rfl⟩
            have HN1 : Hid (N1 = N + 1) := hN1
            rw [← hN1] at ho2
            obtain ⟨a2, c2, hv2⟩ := owns_shape ho2
            subst hv2
            clear hN1
            have k2 : Ch (fun g => (Value.slice a N c).ownBlock = some g) (wA.alloc (.cells #[.int .i64 (n : Nat)] 3)) w2 := Ch.ofGrown hg2
            have hne : ∀ g, (Value.slice a N c).ownBlock = some g → R + 1 ≤ g := fun g hg => (HOA.out.lt g hg).1
            have kb : w2.heap[R]? = some (.cells (sxC s (.slice a N c) X) 147 (0, 0)) := by
              have h1 := H1.out.1.lt
              rw [k2.block R (by simp; omega) (fun h => by have := hne R h; omega), Below.heap_alloc wA _ R h1]
              exact H1.out.1.blk
            have HK : Hid (w2.heap[R]? = some (.cells (sxC s (.slice a N c) X) 147 (0, 0))) := kb
            have HO2 : Hid (w2.ownsRow (R + 1) 3 1 (.slice a2 N1 c2) N1 ((X.g ++ [n]).map fun n => Value.int .i64 (n : Nat))) := by show w2.ownsRow _ _ _ _ _ _; rw [List.map_append]; exact ho2
            have HB2 : Hid (Below R w w2) := (H1.out.2.mono HR0.out).trans ((((Below.refl wA.heap.size wA).alloc (Nat.le_refl _) _).mono (Nat.le_of_lt H1.out.1.lt)).trans (k2.below (fun x hx => by have := hne x hx; omega) (by have := H1.out.1.lt; simp; omega)))
            have f1 : w2.frozen? ⟨R, 1, none⟩ = false := by simp [World.frozen?, kb]
            have d1 : w2.cell? ⟨R, 1, none⟩ = some (.slice a N c) := by simp [World.cell?, kb, sxC]
            have H2 : Hid (SxAt (w2.setCell ⟨R, 1, none⟩ (.slice a2 N1 c2)) R s (.slice a2 N1 c2) { X with g := X.g ++ [n] }) := by
              refine ⟨?_, ?_⟩
              · rw [heap_setCell_same w2 R 1 _ _ (.slice a2 N1 c2) kb]; rfl
              · refine ((Ch.refl (fun q => q = R) w2).set ⟨R, 1, none⟩ (.slice a2 N1 c2) rfl).owns ?_ (fun g h1 h2 => by have := (HO2.out.lt g h1).1; omega)
                have := HO2.out
                rw [HN1.out, HN.out] at this
                rw [HN1.out, HN.out]
                show w2.ownsRow _ _ _ _ (X.g ++ [n]).length _
                rw [List.length_append]
                exact this
            obtain ⟨w3, hw3⟩ : ∃ w3, w3 = w2.setCell ⟨R, 1, none⟩ (.slice a2 N1 c2) := ⟨_, rfl⟩
            have HW3 : Hid (w2.setCell ⟨R, 1, none⟩ (.slice a2 N1 c2) = w3) := hw3.symm
            have H3 : Hid (SxAt w3 R s (.slice a2 N1 c2) { X with g := X.g ++ [n] } ∧ Below R w w3) := by rw [hw3]; exact ⟨H2.out, HB2.out.setCell (Nat.le_refl _) _⟩
            have f3 := H3.out.1.fz 3
            have d3 : w3.cell? ⟨R, 3, none⟩ = some (.int .i64 (P : Nat)) := H3.out.1.c3.trans HP3.out
            obtain ⟨w4, hw4⟩ : ∃ w4, w4 = w3.setCell ⟨R, 3, none⟩ (.int .i64 (q : Nat)) := ⟨_, rfl⟩
            have HW4 : Hid (w3.setCell ⟨R, 3, none⟩ (.int .i64 (q : Nat)) = w4) := hw4.symm
            have H4 : Hid (SxAt w4 R s (.slice a2 N1 c2) { X with g := X.g ++ [n], p := q } ∧ Below R w w4) := by rw [hw4]; exact ⟨H3.out.1.set 3 _ rfl rfl, H3.out.2.setCell (Nat.le_refl _) _⟩
            have d0 := H4.out.1.c0
            clear ho2 hg2 k2 hne kb H2 hw3 hw4 c0 c1 c3
            go_upto_region 30 with fail
            rw [HW3.out]
            go_upto_region 31 with fail
            rw [HW4.out]
            go_wp2_with fail
            go_ret
            exact ⟨by rw [HZ3.out]; rw [← Bool.eq_iff_iff.2 (show ((q : Int) == (s.size : Int)) = true ↔ (q == s.size) = true by simp; omega)]; rfl, ⟨_, by rw [HZ3.out]; exact H4.out.1⟩, H4.out.2⟩
end Go.Proofs.YteldiggaooeeeaaGreatDoor
namespace Go.Proofs.YteldiggaooeeeaaGreatDoor
open Go.RowKit Go.Maps

theorem sxM_eq {s : ByteArray} {R : Nat} {lv : Value} {X : SX} {w : World} (h : SxAt w R s lv X) (d : Bool) : sxM s R (.bool d) w = mZ s (X, d) := by
  unfold sxM mZ
  rw [h.c3, h.c4]
  cases d with
  | true => rfl
  | false =>
    by_cases he : X.er = 0
    · simp [he]
    · simp only [beq_false_of_ne he]
      cases hx : X.er with
      | zero => exact absurd hx he
      | succ n => rfl
end Go.Proofs.YteldiggaooeeeaaGreatDoor
namespace Go.Proofs.YteldiggaooeeeaaGreatDoor
open Go.RowKit Go.Maps

theorem up1_ne {x : Nat → Nat} {k v j : Nat} (h : j ≠ k) : up1 x k v j = x j := if_neg h
theorem ArAt.lowb {w w' : World} {O R : Nat} {C : Array Value} (k : ArAt w O C) (h : Below R w w') (hO : O < R) : ArAt w' O C := (h.block O hO).trans k
theorem results_ar3 {fn : Func} {p u v : Tmp} (h : fn.results = #[.cell p 26, .tmp u, .tmp v]) (tmps : Array Value) (w : World) (O : Nat) (x : Nat → Nat) (hp : tmps.getD p undef = .pointer (some ⟨O, 0, none⟩)) (hb : ArAt w O (arCells x)) :
    (results fn tmps).run Tryz.prog w = .ok (.tuple #[.agg (arCells x), tmps.getD u undef, tmps.getD v undef]) w := by
  have hp' : tmps[p]?.getD undef = .pointer (some ⟨O, 0, none⟩) := by simpa using hp
  simp [results, h, hp', asAddr, run_loadVar_row w O _ 26 (arCells x) _ _ hb Tryz.underlying26 rfl Tryz.sizeAr]
set_option maxHeartbeats 1600000 in
set_option maxRecDepth 100000 in
theorem sixes_plain (s : ByteArray) (w : World) (hs : s.size ≤ 1000) (hnd : ∀ i, sB s i ≠ 46) (hok : (sxL s).er = 0) (h8 : (decide ((sxL s).gap < 0) && decide ((sxL s).g.length < 8)) = false) : Calls Tryz.prog 75 #[.string s] w fun r w' => r = .returned (.tuple #[.agg (arCells (fil (sxL s) (sxL s).g.length)), .int .i64 0, .int .i64 0]) ∧ Below w.heap.size w w' := by
  have HS : Hid (s.size ≤ 1000) := hs
  have HND : Hid (∀ i, sB s i ≠ 46) := hnd
  have HOKE : Hid ((sxL s).er = 0) := hok
  have H8 : Hid ((decide ((sxL s).gap < 0) && decide ((sxL s).g.length < 8)) = false) := h8
  clear hs hnd hok h8
  have b1 := arAt_new w (arCells fun _ => 0)
  have b2 := arAt_new (w.alloc (.cells (arCells fun _ => 0) 26)) (arCells fun _ => 0)
  have l1 : Below w.heap.size w (w.alloc (.cells (arCells fun _ => 0) 26)) := (Below.refl _ _).alloc (Nat.le_refl _) _
  obtain ⟨W1, hW1⟩ : ∃ W1, W1 = w.alloc (.cells (arCells fun _ => 0) 26) := ⟨_, rfl⟩
  rw [← hW1] at b1 b2 l1
  obtain ⟨W2, hW2⟩ : ∃ W2, W2 = W1.alloc (.cells (arCells fun _ => 0) 26) := ⟨_, rfl⟩
  have l2 : Below W1.heap.size W1 W2 := by rw [hW2]; exact (Below.refl _ _).alloc (Nat.le_refl _) _
  rw [← hW2] at b2
  obtain ⟨W, hW⟩ : ∃ W, W = W2.alloc (.cells (sxC s (.slice none 0 0) ⟨[], -1, 0, 0, 0⟩) 147) := ⟨_, rfl⟩
  have l3 : Below W2.heap.size W2 W := by rw [hW]; exact (Below.refl _ _).alloc (Nat.le_refl _) _
  have sx : SxAt W W2.heap.size s (.slice none 0 0) ⟨[], -1, 0, 0, 0⟩ := ⟨by rw [hW]; exact heap_alloc_new _ _, World.ownsRow_nil _ _ _ _⟩
  have z1 : W1.heap.size = w.heap.size + 1 := by rw [hW1, World.size_alloc]
  have z2 : W2.heap.size = w.heap.size + 2 := by rw [hW2, World.size_alloc, z1]
  obtain ⟨B, hB⟩ : ∃ B, w.heap.size = B := ⟨_, rfl⟩
  obtain ⟨D, hD⟩ : ∃ D, W1.heap.size = D := ⟨_, rfl⟩
  obtain ⟨R, hR⟩ : ∃ R, W2.heap.size = R := ⟨_, rfl⟩
  have HOB : Hid (w.heap.size = B) := hB
  have HOD : Hid (W1.heap.size = D) := hD
  have HOR : Hid (W2.heap.size = R) := hR
  have HRD : Hid (B < D ∧ D < R) := by show B < D ∧ D < R; omega
  rw [hB] at b1
  rw [hD] at b2
  rw [hR] at sx
  have H0 : Hid (SxAt W R s (.slice none 0 0) ⟨[], -1, 0, 0, 0⟩ ∧ ArAt W B (arCells fun _ => 0) ∧ ArAt W D (arCells fun _ => 0) ∧ Below w.heap.size w W) := ⟨sx, (b1.below l2).below l3, b2.below l3, bthen (bthen l1 l2) l3⟩
  have HW1 : Hid (w.alloc (.cells #[.int .u8 0, .int .u8 0, .int .u8 0, .int .u8 0, .int .u8 0, .int .u8 0, .int .u8 0, .int .u8 0, .int .u8 0, .int .u8 0, .int .u8 0, .int .u8 0, .int .u8 0, .int .u8 0, .int .u8 0, .int .u8 0] 26) = W1) := hW1.symm
  have HW2 : Hid (W1.alloc (.cells #[.int .u8 0, .int .u8 0, .int .u8 0, .int .u8 0, .int .u8 0, .int .u8 0, .int .u8 0, .int .u8 0, .int .u8 0, .int .u8 0, .int .u8 0, .int .u8 0, .int .u8 0, .int .u8 0, .int .u8 0, .int .u8 0] 26) = W2) := hW2.symm
  have HW3 : Hid (W2.alloc (.cells #[.string s, .slice none 0 0, .int .i64 (-1), .int .i64 0, .int .i64 0, .int .i64 0] 147) = W) := hW.symm
  obtain ⟨b, hb⟩ : ∃ b, twB s 0 = b := ⟨_, rfl⟩
  have HB0 : Hid (twB s 0 = b) := hb
  clear b1 b2 l1 l2 l3 sx z1 z2 hB hD hR hW1 hW2 hW hb
  go_enter Tryz.func75, Tryz.ntmps75
  go_upto_region 1 with fail
  rw [HOB.out, HW1.out]
  go_upto_region 2 with fail
  rw [HOD.out, HW2.out]
  go_upto_region 3 with fail
  rw [HOR.out, HW3.out]
  go_wp2_with fail
  refine (two_any s 0 W (by omega)).mono ?_
  rintro e1 wz ⟨rfl, rfl⟩
  rw [HB0.out]
  cases b with
  | true =>
    have HX0 : Hid (sx0 s = (⟨[], 0, 2, 0, 0⟩, s.size == 2)) := by show _ = _; unfold sx0; rw [HB0.out]; rfl
    have f2 := H0.out.1.fz 2
    have c2 := H0.out.1.c2
    obtain ⟨w2, hw2⟩ : ∃ w2, w2 = W.setCell ⟨R, 2, none⟩ (.int .i64 0) := ⟨_, rfl⟩
    have H1 : Hid (SxAt w2 R s (.slice none 0 0) ⟨[], 0, 0, 0, 0⟩) := by rw [hw2]; exact H0.out.1.set 2 _ rfl rfl
    have f3 := H1.out.fz 3
    have c3 := H1.out.c3
    obtain ⟨w3, hw3⟩ : ∃ w3, w3 = w2.setCell ⟨R, 3, none⟩ (.int .i64 2) := ⟨_, rfl⟩
    have k3 : Ch (fun q => q = R) W w3 := by rw [hw3, hw2]; exact ((Ch.refl (fun q => q = R) W).set ⟨R, 2, none⟩ _ rfl).set ⟨R, 3, none⟩ _ rfl
    have H2 : Hid (SxAt w3 R s (.slice none 0 0) ⟨[], 0, 2, 0, 0⟩ ∧ ArAt w3 B (arCells fun _ => 0) ∧ ArAt w3 D (arCells fun _ => 0) ∧ Below w.heap.size w w3) := by
      have hR := HRD.out
      have hB := HOB.out
      refine ⟨by rw [hw3]; exact H1.out.set 3 _ rfl rfl, H0.out.2.1.ch k3 (by omega), H0.out.2.2.1.ch k3 (by omega), H0.out.2.2.2.trans (k3.below (fun x hx => by omega) H0.out.2.2.2.size)⟩
    have HWa : Hid (W.setCell ⟨R, 2, none⟩ (.int .i64 0) = w2) := hw2.symm
    have HWb : Hid (w2.setCell ⟨R, 3, none⟩ (.int .i64 2) = w3) := hw3.symm
    clear hw2 hw3 k3
    obtain ⟨dn, hdn⟩ : ∃ dn, (s.size == 2) = dn := ⟨_, rfl⟩
    have HDN : Hid ((s.size == 2) = dn) := hdn
    have q1 : ((s.size : Int) == 2) = dn := by rw [← hdn, Bool.eq_iff_iff]; simp; omega
    clear hdn
    go_upto_region 7 with fail
    rw [HWa.out]
    go_upto_region 8 with fail
    rw [HWb.out]
    clear f2 c2 f3 c3
    go_wp2
    go_loopw [7] (fun dv wr => ∃ (X : SX) (d : Bool) (lv : Value) (f : Nat), dv = .bool d ∧ Hid (SxOk s X ∧ slp s f (X, d) = sxL s ∧ mZ s (X, d) ≤ f) ∧ Hid (SxAt wr R s lv X ∧ ArAt wr B (arCells fun _ => 0) ∧ ArAt wr D (arCells fun _ => 0) ∧ Below w.heap.size w wr)) (fun dv wr => sxM s R dv wr)
    case atStart => exact ⟨⟨[], 0, 2, 0, 0⟩, dn, .slice none 0 0, s.size + 1, rfl, ⟨by have := sx0_ok s; rw [HX0.out] at this; exact this, by unfold sxL; rw [HX0.out, HDN.out], by have := sx0_m s; rw [HX0.out, HDN.out] at this; exact this⟩, H2.out⟩
    case round =>
      obtain ⟨X, d, lv, f, rfl, HI, HA⟩ := hrel
      have HOK : Hid (SxOk s X) := HI.out.1
      cases d with
      | true =>
        have HXE : Hid (sxL s = X) := by show _ = _; rw [← HI.out.2.1]; exact slp_end rfl f
        have HER : Hid (X.er = 0) := by show _ = _; rw [← HXE.out]; exact HOKE.out
        obtain ⟨N, hN⟩ : ∃ N, N = X.g.length := ⟨_, rfl⟩
        obtain ⟨a, c, hlv⟩ := owns_shape HA.out.1.own
        rw [← hN] at hlv
        subst hlv
        have HN : Hid (N = X.g.length) := hN
        have HN8 : Hid (N ≤ 8) := by show N ≤ 8; rw [hN]; exact HOK.out.l
        obtain ⟨G, hG⟩ : ∃ G, X.gap = G := ⟨_, rfl⟩
        have HG : Hid (X.gap = G) := hG
        have HE8 : Hid ((decide (G < 0) && decide (N < 8)) = false) := by have := H8.out; rw [HXE.out, hG, ← hN] at this; exact this
        have c4 : wr.cell? ⟨R, 4, none⟩ = some (.int .i64 0) := HA.out.1.c4.trans (by rw [HER.out]; rfl)
        have c2 : wr.cell? ⟨R, 2, none⟩ = some (.int .i64 G) := HA.out.1.c2.trans (by rw [hG])
        have c1 := HA.out.1.c1
        clear hN hG
        by_cases hg : G < 0
        · have q1 : decide (G < 0) = true := decide_eq_true hg
          have HN7 : Hid (¬ N < 8) := by have := HE8.out; rw [q1] at this; show ¬ N < 8; simpa using this
          have q2 : decide ((N : Int) < 8) = false := decide_eq_false (by have := HN7.out; omega)
          have q3 : ¬ (N : Int) < 8 := by have := HN7.out; omega
          clear hg
          go_wp2
          go_loopw [9] (fun iv wf => ∃ i : Nat, i ≤ N ∧ iv = .int .i64 (i : Nat) ∧ Hid (SxAt wf R s (.slice a N c) X ∧ ArAt wf B (arCells fun _ => 0) ∧ ArAt wf D (arCells (fil X i)) ∧ Below w.heap.size w wf)) (fun iv _ => N - (intOf iv).toNat)
          case atStart => exact ⟨0, Nat.zero_le _, rfl, ⟨HA.out.1, HA.out.2.1, HA.out.2.2.1, HA.out.2.2.2⟩⟩
          case round =>
            obtain ⟨i, hi, rfl, HF⟩ := hrel
            clear c1 c2 c4
            by_cases hil : i < N
            · have p1 : decide ((i : Int) < (N : Int)) = true := decide_eq_true (by omega)
              have p2 : decide (i < N) = true := decide_eq_true hil
              have HIL : Hid (i < N) := hil
              have w1 : IntKind.i64.wrap ((i : Int) + 1) = (i : Int) + 1 := i64_s _ (by omega) (by have := HN8.out; omega)
              obtain ⟨k, hk⟩ : ∃ k, kI X i = k := ⟨_, rfl⟩
              have HK : Hid (kI X i = k) := hk
              have HK8 : Hid (k < 8) := by
                show k < 8
                rw [← hk]
                unfold kI
                have h1 := HN8.out
                rw [← HN.out]
                split <;> omega
              have HSH : Hid (∃ g, a = some ⟨g, 0, none⟩ ∧ R + 1 ≤ g) := by
                rcases HF.out.1.own.2 with ⟨h1, h2⟩ | ⟨g, cap, cur, hv, hg, r⟩
                · simp at h1
                  have := h1.2.1
                  omega
                · simp at hv
                  exact ⟨g, hv.1, hg⟩
              obtain ⟨g, hga, hgR⟩ := HSH.out
              subst hga
              have HGR : Hid (R + 1 ≤ g) := hgR
              obtain ⟨v, hv⟩ : ∃ v, X.g.getD i 0 = v := ⟨_, rfl⟩
              have HV : Hid (X.g.getD i 0 = v) := hv
              have HV6 : Hid (v < 65536) := by
                show v < 65536
                have hl : i < X.g.length := by rw [← HN.out]; exact hil
                rw [← hv, List.getD_eq_getElem?_getD, List.getElem?_eq_getElem hl]
                exact HOK.out.b _ (List.getElem_mem hl)
              have HCE : Hid (∀ ww, SxAt ww R s (.slice (some ⟨g, 0, none⟩) N c) X → ww.cell? ⟨g, i, none⟩ = some (.int .i64 (v : Nat))) := fun ww hww => by
                have hl : i < X.g.length := by rw [← HN.out]; exact HIL.out
                have ho := hww.own
                rw [← HN.out] at ho
                have h1 := ho.cellAt i (by simpa using HIL.out)
                rw [h1, List.getElem?_map, List.getElem?_eq_getElem hl, ← HV.out, List.getD_eq_getElem?_getD, List.getElem?_eq_getElem hl]
                rfl
              have c1 := HF.out.1.c1
              have c2 : wr.cell? ⟨R, 2, none⟩ = some (.int .i64 G) := HF.out.1.c2.trans (by rw [HG.out])
              have ce := HCE.out wr HF.out.1
              obtain ⟨d1, hd1⟩ : ∃ d : Nat, d = v / 256 := ⟨_, rfl⟩
              obtain ⟨d2, hd2⟩ : ∃ d : Nat, d = v % 256 := ⟨_, rfl⟩
              have HD : Hid (d1 = v / 256 ∧ d2 = v % 256) := ⟨hd1, hd2⟩
              have t1 : Int.tdiv (v : Int) 256 = (d1 : Int) := by rw [Int.tdiv_eq_ediv_of_nonneg (by omega)]; omega
              have t2 : Int.tmod (v : Int) 256 = (d2 : Int) := by rw [Int.tmod_eq_emod_of_nonneg (by omega)]; omega
              have t3 : IntKind.u8.wrap (d1 : Int) = (d1 : Int) := u8_s _ (by omega) (by have := HV6.out; omega)
              have t4 : IntKind.u8.wrap (d2 : Int) = (d2 : Int) := u8_s _ (by omega) (by omega)
              have t5 : IntKind.i64.wrap (d1 : Int) = (d1 : Int) := i64_s _ (by omega) (by have := HV6.out; omega)
              have t6 : IntKind.i64.wrap (d2 : Int) = (d2 : Int) := i64_s _ (by omega) (by omega)
              obtain ⟨k2, hk2⟩ : ∃ k2, k2 = 2 * k := ⟨_, rfl⟩
              have HK2 : Hid (k2 = 2 * k) := hk2
              have s1 : IntKind.i64.wrap (2 * (k : Int)) = (k2 : Int) := by rw [i64_s _ (by omega) (by have := HK8.out; omega)]; omega
              have s2 : IntKind.i64.wrap ((k2 : Int) + 1) = (k2 : Int) + 1 := i64_s _ (by omega) (by have := HK8.out; omega)
              have l1 : (k2 : Int) < 16 := by have := HK8.out; omega
              have l2 : (k2 : Int) + 1 < 16 := by have := HK8.out; omega
              have P1 := HF.out.2.2.1.put k2 (y := up1 (fil X i) k2 d1) (by have := HK8.out; omega) (fun j hj => by unfold up1; rw [if_neg hj])
              have e1 : up1 (fil X i) k2 d1 k2 = d1 := by unfold up1; rw [if_pos rfl]
              rw [e1] at P1
              have f1 := HF.out.2.2.1.fz k2
              have g1 := HF.out.2.2.1.get k2 (by have := HK8.out; omega)
              obtain ⟨w5, hw5⟩ : ∃ w5, w5 = wr.setCell ⟨D, k2, none⟩ (.int .u8 (d1 : Nat)) := ⟨_, rfl⟩
              rw [← hw5] at P1
              have HW5 : Hid (wr.setCell ⟨D, k2, none⟩ (.int .u8 (d1 : Nat)) = w5) := hw5.symm
              have H5 : Hid (SxAt w5 R s (.slice (some ⟨g, 0, none⟩) N c) X ∧ ArAt w5 B (arCells fun _ => 0) ∧ ArAt w5 D (arCells (up1 (fil X i) k2 d1)) ∧ Below w.heap.size w w5) := by
                have hR := HRD.out
                have hB := HOB.out
                exact ⟨HF.out.1.ch P1.2 (by omega) (fun q hq => by omega), HF.out.2.1.ch P1.2 (by omega), P1.1, HF.out.2.2.2.trans (P1.2.below (fun x hx => by omega) HF.out.2.2.2.size)⟩
              have P2 := H5.out.2.2.1.put (k2 + 1) (y := fil X (i + 1)) (by have := HK8.out; omega) (fun j hj => by
                show up1 (up1 (fil X i) (2 * kI X i) _) (2 * kI X i + 1) _ j = _
                rw [HK.out, HV.out, ← HK2.out, ← HD.out.1]
                exact up1_ne hj)
              have e2 : fil X (i + 1) (k2 + 1) = d2 := by
                show up1 (up1 (fil X i) (2 * kI X i) _) (2 * kI X i + 1) _ (k2 + 1) = _
                rw [HK.out, HV.out, ← HK2.out, ← HD.out.2]
                exact if_pos rfl
              rw [e2] at P2
              have f2 := H5.out.2.2.1.fz (k2 + 1)
              have g2 := H5.out.2.2.1.get (k2 + 1) (by have := HK8.out; omega)
              have c1' := H5.out.1.c1
              have ce' := HCE.out w5 H5.out.1
              obtain ⟨w6, hw6⟩ : ∃ w6, w6 = w5.setCell ⟨D, k2 + 1, none⟩ (.int .u8 (d2 : Nat)) := ⟨_, rfl⟩
              rw [← hw6] at P2
              have HW6 : Hid (w5.setCell ⟨D, k2 + 1, none⟩ (.int .u8 (d2 : Nat)) = w6) := hw6.symm
              have H6 : Hid (SxAt w6 R s (.slice (some ⟨g, 0, none⟩) N c) X ∧ ArAt w6 B (arCells fun _ => 0) ∧ ArAt w6 D (arCells (fil X (i + 1))) ∧ Below w.heap.size w w6) := by
                have hR := HRD.out
                have hB := HOB.out
                exact ⟨H5.out.1.ch P2.2 (by omega) (fun q hq => by omega), H5.out.2.1.ch P2.2 (by omega), P2.1, H5.out.2.2.2.trans (P2.2.below (fun x hx => by omega) H5.out.2.2.2.size)⟩
              clear P1 P2 hw5 hw6 hv hk hk2 hd1 hd2 hil hgR e1 e2
              by_cases hgap : 0 ≤ G ∧ G ≤ (i : Int)
              · have q1 : decide (0 ≤ G) = true := decide_eq_true hgap.1
                have q2 : decide (G ≤ (i : Int)) = true := decide_eq_true hgap.2
                have s3 : IntKind.i64.wrap (8 - (N : Int)) = 8 - (N : Int) := i64_s _ (by have := HN8.out; omega) (by omega)
                have s4 : IntKind.i64.wrap (8 - (N : Int) + (i : Int)) = (k : Int) := by
                  have h1 := HK.out
                  have h2 := HN8.out
                  have h3 := HIL.out
                  unfold kI at h1
                  rw [HG.out, q1, q2, ← HN.out] at h1
                  simp at h1
                  rw [i64_s _ (by omega) (by omega)]
                  omega
                clear hgap
                go_upto_region 24 with fail
                rw [HW5.out]
                go_upto_region 19 with fail
                rw [HW6.out]
                clear f1 f2 g1 g2 c1 c2 ce c1' ce'
                go_wp2_with fail
                go_roundw
                case rel => exact ⟨i + 1, HIL.out, by simp, H6.out⟩
                case measure => have := HIL.out; simp [intOf]; omega
              · have s4 : (i : Int) = (k : Int) := by
                  have h1 := HK.out
                  unfold kI at h1
                  rw [HG.out, if_neg (by simp; omega)] at h1
                  omega
                by_cases hg0 : 0 ≤ G
                · have q1 : decide (0 ≤ G) = true := decide_eq_true hg0
                  have q2 : decide (G ≤ (i : Int)) = false := decide_eq_false (by omega)
                  obtain rfl : i = k := by omega
                  clear hgap hg0 s4
                  go_upto_region 24 with fail
                  rw [HW5.out]
                  go_upto_region 19 with fail
                  rw [HW6.out]
                  clear f1 f2 g1 g2 c1 c2 ce c1' ce'
                  go_wp2_with fail
                  go_roundw
                  case rel => exact ⟨i + 1, HIL.out, by simp, H6.out⟩
                  case measure => have := HIL.out; simp [intOf]; omega
                · have q1 : decide (0 ≤ G) = false := decide_eq_false hg0
                  obtain rfl : i = k := by omega
                  clear hgap hg0 s4
                  go_upto_region 24 with fail
                  rw [HW5.out]
                  go_upto_region 19 with fail
                  rw [HW6.out]
                  clear f1 f2 g1 g2 c1 c2 ce c1' ce'
                  go_wp2_with fail
                  go_roundw
                  case rel => exact ⟨i + 1, HIL.out, by simp, H6.out⟩
                  case measure => have := HIL.out; simp [intOf]; omega
            · have p1 : decide ((i : Int) < (N : Int)) = false := decide_eq_false (by omega)
              have p2 : decide (i < N) = false := decide_eq_false hil
              have c1 := HF.out.1.c1
              have HIN : Hid (i = X.g.length) := by show _ = _; rw [← HN.out]; omega
              clear hil hi
              go_wp2_with (first | (refine wpList_load_ar (.tmp 5) rfl D 0 (fil X i) rfl HF.out.2.2.1.range rfl ?_) | (refine wpList_store_ar (.tmp 2) (.tmp 142) rfl rfl B (fun _ => 0) (fil X i) rfl rfl HF.out.2.1 rfl ?_))
              intro w7 h7 k7
              have H7 : Hid (ArAt w7 B (arCells (fil X i)) ∧ Below w.heap.size w w7) := ⟨h7, HF.out.2.2.2.trans (k7.below (fun x hx => by have := HOB.out; omega) HF.out.2.2.2.size)⟩
              clear h7 k7
              go_wp2_with fail
              refine bodyPost_ret (results_ar3 rfl _ _ B _ rfl H7.out.1) rfl ?_
              exact ⟨by rw [HXE.out, ← HIN.out]; rfl, H7.out.2⟩
        · have q1 : decide (G < 0) = false := decide_eq_false hg
          clear hg
          go_wp2
          go_loopw [9] (fun iv wf => ∃ i : Nat, i ≤ N ∧ iv = .int .i64 (i : Nat) ∧ Hid (SxAt wf R s (.slice a N c) X ∧ ArAt wf B (arCells fun _ => 0) ∧ ArAt wf D (arCells (fil X i)) ∧ Below w.heap.size w wf)) (fun iv _ => N - (intOf iv).toNat)
          case atStart => exact ⟨0, Nat.zero_le _, rfl, ⟨HA.out.1, HA.out.2.1, HA.out.2.2.1, HA.out.2.2.2⟩⟩
          case round =>
            obtain ⟨i, hi, rfl, HF⟩ := hrel
            clear c1 c2 c4
            by_cases hil : i < N
            · have p1 : decide ((i : Int) < (N : Int)) = true := decide_eq_true (by omega)
              have p2 : decide (i < N) = true := decide_eq_true hil
              have HIL : Hid (i < N) := hil
              have w1 : IntKind.i64.wrap ((i : Int) + 1) = (i : Int) + 1 := i64_s _ (by omega) (by have := HN8.out; omega)
              obtain ⟨k, hk⟩ : ∃ k, kI X i = k := ⟨_, rfl⟩
              have HK : Hid (kI X i = k) := hk
              have HK8 : Hid (k < 8) := by
                show k < 8
                rw [← hk]
                unfold kI
                have h1 := HN8.out
                rw [← HN.out]
                split <;> omega
              have HSH : Hid (∃ g, a = some ⟨g, 0, none⟩ ∧ R + 1 ≤ g) := by
                rcases HF.out.1.own.2 with ⟨h1, h2⟩ | ⟨g, cap, cur, hv, hg, r⟩
                · simp at h1
                  have := h1.2.1
                  omega
                · simp at hv
                  exact ⟨g, hv.1, hg⟩
              obtain ⟨g, hga, hgR⟩ := HSH.out
              subst hga
              have HGR : Hid (R + 1 ≤ g) := hgR
              obtain ⟨v, hv⟩ : ∃ v, X.g.getD i 0 = v := ⟨_, rfl⟩
              have HV : Hid (X.g.getD i 0 = v) := hv
              have HV6 : Hid (v < 65536) := by
                show v < 65536
                have hl : i < X.g.length := by rw [← HN.out]; exact hil
                rw [← hv, List.getD_eq_getElem?_getD, List.getElem?_eq_getElem hl]
                exact HOK.out.b _ (List.getElem_mem hl)
              have HCE : Hid (∀ ww, SxAt ww R s (.slice (some ⟨g, 0, none⟩) N c) X → ww.cell? ⟨g, i, none⟩ = some (.int .i64 (v : Nat))) := fun ww hww => by
                have hl : i < X.g.length := by rw [← HN.out]; exact HIL.out
                have ho := hww.own
                rw [← HN.out] at ho
                have h1 := ho.cellAt i (by simpa using HIL.out)
                rw [h1, List.getElem?_map, List.getElem?_eq_getElem hl, ← HV.out, List.getD_eq_getElem?_getD, List.getElem?_eq_getElem hl]
                rfl
              have c1 := HF.out.1.c1
              have c2 : wr.cell? ⟨R, 2, none⟩ = some (.int .i64 G) := HF.out.1.c2.trans (by rw [HG.out])
              have ce := HCE.out wr HF.out.1
              obtain ⟨d1, hd1⟩ : ∃ d : Nat, d = v / 256 := ⟨_, rfl⟩
              obtain ⟨d2, hd2⟩ : ∃ d : Nat, d = v % 256 := ⟨_, rfl⟩
              have HD : Hid (d1 = v / 256 ∧ d2 = v % 256) := ⟨hd1, hd2⟩
              have t1 : Int.tdiv (v : Int) 256 = (d1 : Int) := by rw [Int.tdiv_eq_ediv_of_nonneg (by omega)]; omega
              have t2 : Int.tmod (v : Int) 256 = (d2 : Int) := by rw [Int.tmod_eq_emod_of_nonneg (by omega)]; omega
              have t3 : IntKind.u8.wrap (d1 : Int) = (d1 : Int) := u8_s _ (by omega) (by have := HV6.out; omega)
              have t4 : IntKind.u8.wrap (d2 : Int) = (d2 : Int) := u8_s _ (by omega) (by omega)
              have t5 : IntKind.i64.wrap (d1 : Int) = (d1 : Int) := i64_s _ (by omega) (by have := HV6.out; omega)
              have t6 : IntKind.i64.wrap (d2 : Int) = (d2 : Int) := i64_s _ (by omega) (by omega)
              obtain ⟨k2, hk2⟩ : ∃ k2, k2 = 2 * k := ⟨_, rfl⟩
              have HK2 : Hid (k2 = 2 * k) := hk2
              have s1 : IntKind.i64.wrap (2 * (k : Int)) = (k2 : Int) := by rw [i64_s _ (by omega) (by have := HK8.out; omega)]; omega
              have s2 : IntKind.i64.wrap ((k2 : Int) + 1) = (k2 : Int) + 1 := i64_s _ (by omega) (by have := HK8.out; omega)
              have l1 : (k2 : Int) < 16 := by have := HK8.out; omega
              have l2 : (k2 : Int) + 1 < 16 := by have := HK8.out; omega
              have P1 := HF.out.2.2.1.put k2 (y := up1 (fil X i) k2 d1) (by have := HK8.out; omega) (fun j hj => by unfold up1; rw [if_neg hj])
              have e1 : up1 (fil X i) k2 d1 k2 = d1 := by unfold up1; rw [if_pos rfl]
              rw [e1] at P1
              have f1 := HF.out.2.2.1.fz k2
              have g1 := HF.out.2.2.1.get k2 (by have := HK8.out; omega)
              obtain ⟨w5, hw5⟩ : ∃ w5, w5 = wr.setCell ⟨D, k2, none⟩ (.int .u8 (d1 : Nat)) := ⟨_, rfl⟩
              rw [← hw5] at P1
              have HW5 : Hid (wr.setCell ⟨D, k2, none⟩ (.int .u8 (d1 : Nat)) = w5) := hw5.symm
              have H5 : Hid (SxAt w5 R s (.slice (some ⟨g, 0, none⟩) N c) X ∧ ArAt w5 B (arCells fun _ => 0) ∧ ArAt w5 D (arCells (up1 (fil X i) k2 d1)) ∧ Below w.heap.size w w5) := by
                have hR := HRD.out
                have hB := HOB.out
                exact ⟨HF.out.1.ch P1.2 (by omega) (fun q hq => by omega), HF.out.2.1.ch P1.2 (by omega), P1.1, HF.out.2.2.2.trans (P1.2.below (fun x hx => by omega) HF.out.2.2.2.size)⟩
              have P2 := H5.out.2.2.1.put (k2 + 1) (y := fil X (i + 1)) (by have := HK8.out; omega) (fun j hj => by
                show up1 (up1 (fil X i) (2 * kI X i) _) (2 * kI X i + 1) _ j = _
                rw [HK.out, HV.out, ← HK2.out, ← HD.out.1]
                exact up1_ne hj)
              have e2 : fil X (i + 1) (k2 + 1) = d2 := by
                show up1 (up1 (fil X i) (2 * kI X i) _) (2 * kI X i + 1) _ (k2 + 1) = _
                rw [HK.out, HV.out, ← HK2.out, ← HD.out.2]
                exact if_pos rfl
              rw [e2] at P2
              have f2 := H5.out.2.2.1.fz (k2 + 1)
              have g2 := H5.out.2.2.1.get (k2 + 1) (by have := HK8.out; omega)
              have c1' := H5.out.1.c1
              have ce' := HCE.out w5 H5.out.1
              obtain ⟨w6, hw6⟩ : ∃ w6, w6 = w5.setCell ⟨D, k2 + 1, none⟩ (.int .u8 (d2 : Nat)) := ⟨_, rfl⟩
              rw [← hw6] at P2
              have HW6 : Hid (w5.setCell ⟨D, k2 + 1, none⟩ (.int .u8 (d2 : Nat)) = w6) := hw6.symm
              have H6 : Hid (SxAt w6 R s (.slice (some ⟨g, 0, none⟩) N c) X ∧ ArAt w6 B (arCells fun _ => 0) ∧ ArAt w6 D (arCells (fil X (i + 1))) ∧ Below w.heap.size w w6) := by
                have hR := HRD.out
                have hB := HOB.out
                exact ⟨H5.out.1.ch P2.2 (by omega) (fun q hq => by omega), H5.out.2.1.ch P2.2 (by omega), P2.1, H5.out.2.2.2.trans (P2.2.below (fun x hx => by omega) H5.out.2.2.2.size)⟩
              clear P1 P2 hw5 hw6 hv hk hk2 hd1 hd2 hil hgR e1 e2
              by_cases hgap : 0 ≤ G ∧ G ≤ (i : Int)
              · have q1 : decide (0 ≤ G) = true := decide_eq_true hgap.1
                have q2 : decide (G ≤ (i : Int)) = true := decide_eq_true hgap.2
                have s3 : IntKind.i64.wrap (8 - (N : Int)) = 8 - (N : Int) := i64_s _ (by have := HN8.out; omega) (by omega)
                have s4 : IntKind.i64.wrap (8 - (N : Int) + (i : Int)) = (k : Int) := by
                  have h1 := HK.out
                  have h2 := HN8.out
                  have h3 := HIL.out
                  unfold kI at h1
                  rw [HG.out, q1, q2, ← HN.out] at h1
                  simp at h1
                  rw [i64_s _ (by omega) (by omega)]
                  omega
                clear hgap
                go_upto_region 24 with fail
                rw [HW5.out]
                go_upto_region 19 with fail
                rw [HW6.out]
                clear f1 f2 g1 g2 c1 c2 ce c1' ce'
                go_wp2_with fail
                go_roundw
                case rel => exact ⟨i + 1, HIL.out, by simp, H6.out⟩
                case measure => have := HIL.out; simp [intOf]; omega
              · have s4 : (i : Int) = (k : Int) := by
                  have h1 := HK.out
                  unfold kI at h1
                  rw [HG.out, if_neg (by simp; omega)] at h1
                  omega
                by_cases hg0 : 0 ≤ G
                · have q1 : decide (0 ≤ G) = true := decide_eq_true hg0
                  have q2 : decide (G ≤ (i : Int)) = false := decide_eq_false (by omega)
                  obtain rfl : i = k := by omega
                  clear hgap hg0 s4
                  go_upto_region 24 with fail
                  rw [HW5.out]
                  go_upto_region 19 with fail
                  rw [HW6.out]
                  clear f1 f2 g1 g2 c1 c2 ce c1' ce'
                  go_wp2_with fail
                  go_roundw
                  case rel => exact ⟨i + 1, HIL.out, by simp, H6.out⟩
                  case measure => have := HIL.out; simp [intOf]; omega
                · have q1 : decide (0 ≤ G) = false := decide_eq_false hg0
                  obtain rfl : i = k := by omega
                  clear hgap hg0 s4
                  go_upto_region 24 with fail
                  rw [HW5.out]
                  go_upto_region 19 with fail
                  rw [HW6.out]
                  clear f1 f2 g1 g2 c1 c2 ce c1' ce'
                  go_wp2_with fail
                  go_roundw
                  case rel => exact ⟨i + 1, HIL.out, by simp, H6.out⟩
                  case measure => have := HIL.out; simp [intOf]; omega
            · have p1 : decide ((i : Int) < (N : Int)) = false := decide_eq_false (by omega)
              have p2 : decide (i < N) = false := decide_eq_false hil
              have c1 := HF.out.1.c1
              have HIN : Hid (i = X.g.length) := by show _ = _; rw [← HN.out]; omega
              clear hil hi
              go_wp2_with (first | (refine wpList_load_ar (.tmp 5) rfl D 0 (fil X i) rfl HF.out.2.2.1.range rfl ?_) | (refine wpList_store_ar (.tmp 2) (.tmp 142) rfl rfl B (fun _ => 0) (fil X i) rfl rfl HF.out.2.1 rfl ?_))
              intro w7 h7 k7
              have H7 : Hid (ArAt w7 B (arCells (fil X i)) ∧ Below w.heap.size w w7) := ⟨h7, HF.out.2.2.2.trans (k7.below (fun x hx => by have := HOB.out; omega) HF.out.2.2.2.size)⟩
              clear h7 k7
              go_wp2_with fail
              refine bodyPost_ret (results_ar3 rfl _ _ B _ rfl H7.out.1) rfl ?_
              exact ⟨by rw [HXE.out, ← HIN.out]; rfl, H7.out.2⟩
      | false =>
        have HER : Hid (X.er = 0) := by
          show X.er = 0
          by_cases he : X.er = 0
          · exact he
          · have := HI.out.2.1
            rw [slp_end (by simp [he])] at this
            have h2 := HOKE.out
            rw [← this] at h2
            exact h2
        have HM0 : Hid (mZ s (X, false) = s.size + 1 - X.p) := by show _ = _; unfold mZ; rw [HER.out]; rfl
        obtain ⟨f', hf'⟩ : ∃ f', f = f' + 1 := ⟨f - 1, by have h1 := HI.out.2.2; have h2 := HM0.out; have h3 := HOK.out.p; omega⟩
        subst hf'
        have HSL : Hid (slp s f' (rnd s X) = sxL s) := by
          have h1 := HI.out.2.1
          unfold slp at h1
          rw [HER.out] at h1
          exact h1
        have HLE : Hid (mZ s (rnd s X) < s.size + 1 - X.p) := rnd_less HND.out HOK.out
        have HLF : Hid (mZ s (rnd s X) ≤ f') := by have h1 := HLE.out; have h2 := HI.out.2.2; have h3 := HM0.out; show _ ≤ _; omega
        have HME : Hid (sxM s R (.bool false) wr = s.size + 1 - X.p) := by show _ = _; rw [sxM_eq HA.out.1, HM0.out]
        have c4 : wr.cell? ⟨R, 4, none⟩ = some (.int .i64 0) := HA.out.1.c4.trans (by rw [HER.out]; rfl)
        go_wp2_with fail
        refine (group_plain R s lv X wr HA.out.1 HOK.out.p HS.out HOK.out.l HND.out).mono ?_
        rintro e1 w4 ⟨rfl, ⟨lv2, k1⟩, k2⟩
        obtain ⟨Y, hY⟩ : ∃ Y, grp s X = Y := ⟨_, rfl⟩
        rw [hY] at k1 ⊢
        have HY : Hid (grp s X = Y) := hY
        have HAY : Hid (SxAt w4 R s lv2 Y.1 ∧ ArAt w4 B (arCells fun _ => 0) ∧ ArAt w4 D (arCells fun _ => 0) ∧ Below w.heap.size w w4) := by
          have hR := HRD.out
          have hB := HOB.out
          exact ⟨k1, HA.out.2.1.lowb k2 (by omega), HA.out.2.2.1.lowb k2 (by omega), HA.out.2.2.2.trans (k2.mono (by omega))⟩
        obtain ⟨Y1, bd⟩ := Y
        simp only at HAY ⊢
        clear hY k1 k2 c4
        cases bd with
        | true =>
          have HRN : Hid (rnd s X = (Y1, true)) := by show _ = _; unfold rnd; rw [HY.out]; rfl
          go_wp2
          go_roundw
          case rel => exact ⟨Y1, true, lv2, f', rfl, ⟨by have := rnd_ok HND.out HOK.out; rw [HRN.out] at this; exact this, by have := HSL.out; rw [HRN.out] at this; exact this, by have := HLF.out; rw [HRN.out] at this; exact this⟩, HAY.out⟩
          case measure => rw [HME.out, sxM_eq HAY.out.1]; have := HLE.out; rw [HRN.out] at this; exact this
        | false =>
          by_cases he : Y1.er = 0
          · have HYE : Hid (Y1.er = 0) := he
            have HRN : Hid (rnd s X = btw s Y1) := by show _ = _; unfold rnd; rw [HY.out]; simp only; rw [he]; rfl
            have HYP : Hid (Y1.p < s.size) := by have := (grp_go HND.out HOK.out (by rw [HY.out])).2; rw [HY.out] at this; exact this
            have c4 : w4.cell? ⟨R, 4, none⟩ = some (.int .i64 0) := HAY.out.1.c4.trans (by rw [he]; rfl)
            clear he
            go_wp2_with fail
            refine (between_any R s lv2 Y1 w4 HAY.out.1 HYP.out HS.out).mono ?_
            rintro e1 w5 ⟨rfl, k1, k2⟩
            obtain ⟨U, hU⟩ : ∃ U, btw s Y1 = U := ⟨_, rfl⟩
            rw [hU] at k1 ⊢
            have HU : Hid (rnd s X = U) := HRN.out.trans hU
            have HAU : Hid (SxAt w5 R s lv2 U.1 ∧ ArAt w5 B (arCells fun _ => 0) ∧ ArAt w5 D (arCells fun _ => 0) ∧ Below w.heap.size w w5) := by
              have hR := HRD.out
              have hB := HOB.out
              exact ⟨k1, HAY.out.2.1.ch k2 (by omega), HAY.out.2.2.1.ch k2 (by omega), HAY.out.2.2.2.trans (k2.below (fun x hx => by omega) HAY.out.2.2.2.size)⟩
            obtain ⟨U1, ud⟩ := U
            simp only at HAU ⊢
            clear hU k1 k2 c4
            go_wp2
            go_roundw
            case rel => exact ⟨U1, ud, lv2, f', rfl, ⟨by have := rnd_ok HND.out HOK.out; rw [HU.out] at this; exact this, by have := HSL.out; rw [HU.out] at this; exact this, by have := HLF.out; rw [HU.out] at this; exact this⟩, HAU.out⟩
            case measure => rw [HME.out, sxM_eq HAU.out.1]; have := HLE.out; rw [HU.out] at this; exact this
          · have HRN : Hid (rnd s X = (Y1, false)) := by show _ = _; unfold rnd; rw [HY.out]; simp [he]
            have c4 := HAY.out.1.c4
            have q1 : (((Y1.er : Nat) : Int) == 0) = false := by simp [he]
            clear he
            go_wp2
            go_roundw
            case rel => exact ⟨Y1, false, lv2, f', rfl, ⟨by have := rnd_ok HND.out HOK.out; rw [HRN.out] at this; exact this, by have := HSL.out; rw [HRN.out] at this; exact this, by have := HLF.out; rw [HRN.out] at this; exact this⟩, HAY.out⟩
            case measure => rw [HME.out, sxM_eq HAY.out.1]; have := HLE.out; rw [HRN.out] at this; exact this
  | false =>
    have HX0 : Hid (sx0 s = (⟨[], -1, 0, 0, 0⟩, false)) := by show _ = _; unfold sx0; rw [HB0.out]; rfl
    go_wp2
    go_loopw [7] (fun dv wr => ∃ (X : SX) (d : Bool) (lv : Value) (f : Nat), dv = .bool d ∧ Hid (SxOk s X ∧ slp s f (X, d) = sxL s ∧ mZ s (X, d) ≤ f) ∧ Hid (SxAt wr R s lv X ∧ ArAt wr B (arCells fun _ => 0) ∧ ArAt wr D (arCells fun _ => 0) ∧ Below w.heap.size w wr)) (fun dv wr => sxM s R dv wr)
    case atStart => exact ⟨⟨[], -1, 0, 0, 0⟩, false, .slice none 0 0, s.size + 1, rfl, ⟨by have := sx0_ok s; rw [HX0.out] at this; exact this, by unfold sxL; rw [HX0.out], by have := sx0_m s; rw [HX0.out] at this; exact this⟩, H0.out⟩
    case round =>
      obtain ⟨X, d, lv, f, rfl, HI, HA⟩ := hrel
      have HOK : Hid (SxOk s X) := HI.out.1
      cases d with
      | true =>
        have HXE : Hid (sxL s = X) := by show _ = _; rw [← HI.out.2.1]; exact slp_end rfl f
        have HER : Hid (X.er = 0) := by show _ = _; rw [← HXE.out]; exact HOKE.out
        obtain ⟨N, hN⟩ : ∃ N, N = X.g.length := ⟨_, rfl⟩
        obtain ⟨a, c, hlv⟩ := owns_shape HA.out.1.own
        rw [← hN] at hlv
        subst hlv
        have HN : Hid (N = X.g.length) := hN
        have HN8 : Hid (N ≤ 8) := by show N ≤ 8; rw [hN]; exact HOK.out.l
        obtain ⟨G, hG⟩ : ∃ G, X.gap = G := ⟨_, rfl⟩
        have HG : Hid (X.gap = G) := hG
        have HE8 : Hid ((decide (G < 0) && decide (N < 8)) = false) := by have := H8.out; rw [HXE.out, hG, ← hN] at this; exact this
        have c4 : wr.cell? ⟨R, 4, none⟩ = some (.int .i64 0) := HA.out.1.c4.trans (by rw [HER.out]; rfl)
        have c2 : wr.cell? ⟨R, 2, none⟩ = some (.int .i64 G) := HA.out.1.c2.trans (by rw [hG])
        have c1 := HA.out.1.c1
        clear hN hG
        by_cases hg : G < 0
        · have q1 : decide (G < 0) = true := decide_eq_true hg
          have HN7 : Hid (¬ N < 8) := by have := HE8.out; rw [q1] at this; show ¬ N < 8; simpa using this
          have q2 : decide ((N : Int) < 8) = false := decide_eq_false (by have := HN7.out; omega)
          have q3 : ¬ (N : Int) < 8 := by have := HN7.out; omega
          clear hg
          go_wp2
          go_loopw [9] (fun iv wf => ∃ i : Nat, i ≤ N ∧ iv = .int .i64 (i : Nat) ∧ Hid (SxAt wf R s (.slice a N c) X ∧ ArAt wf B (arCells fun _ => 0) ∧ ArAt wf D (arCells (fil X i)) ∧ Below w.heap.size w wf)) (fun iv _ => N - (intOf iv).toNat)
          case atStart => exact ⟨0, Nat.zero_le _, rfl, ⟨HA.out.1, HA.out.2.1, HA.out.2.2.1, HA.out.2.2.2⟩⟩
          case round =>
            obtain ⟨i, hi, rfl, HF⟩ := hrel
            clear c1 c2 c4
            by_cases hil : i < N
            · have p1 : decide ((i : Int) < (N : Int)) = true := decide_eq_true (by omega)
              have p2 : decide (i < N) = true := decide_eq_true hil
              have HIL : Hid (i < N) := hil
              have w1 : IntKind.i64.wrap ((i : Int) + 1) = (i : Int) + 1 := i64_s _ (by omega) (by have := HN8.out; omega)
              obtain ⟨k, hk⟩ : ∃ k, kI X i = k := ⟨_, rfl⟩
              have HK : Hid (kI X i = k) := hk
              have HK8 : Hid (k < 8) := by
                show k < 8
                rw [← hk]
                unfold kI
                have h1 := HN8.out
                rw [← HN.out]
                split <;> omega
              have HSH : Hid (∃ g, a = some ⟨g, 0, none⟩ ∧ R + 1 ≤ g) := by
                rcases HF.out.1.own.2 with ⟨h1, h2⟩ | ⟨g, cap, cur, hv, hg, r⟩
                · simp at h1
                  have := h1.2.1
                  omega
                · simp at hv
                  exact ⟨g, hv.1, hg⟩
              obtain ⟨g, hga, hgR⟩ := HSH.out
              subst hga
              have HGR : Hid (R + 1 ≤ g) := hgR
              obtain ⟨v, hv⟩ : ∃ v, X.g.getD i 0 = v := ⟨_, rfl⟩
              have HV : Hid (X.g.getD i 0 = v) := hv
              have HV6 : Hid (v < 65536) := by
                show v < 65536
                have hl : i < X.g.length := by rw [← HN.out]; exact hil
                rw [← hv, List.getD_eq_getElem?_getD, List.getElem?_eq_getElem hl]
                exact HOK.out.b _ (List.getElem_mem hl)
              have HCE : Hid (∀ ww, SxAt ww R s (.slice (some ⟨g, 0, none⟩) N c) X → ww.cell? ⟨g, i, none⟩ = some (.int .i64 (v : Nat))) := fun ww hww => by
                have hl : i < X.g.length := by rw [← HN.out]; exact HIL.out
                have ho := hww.own
                rw [← HN.out] at ho
                have h1 := ho.cellAt i (by simpa using HIL.out)
                rw [h1, List.getElem?_map, List.getElem?_eq_getElem hl, ← HV.out, List.getD_eq_getElem?_getD, List.getElem?_eq_getElem hl]
                rfl
              have c1 := HF.out.1.c1
              have c2 : wr.cell? ⟨R, 2, none⟩ = some (.int .i64 G) := HF.out.1.c2.trans (by rw [HG.out])
              have ce := HCE.out wr HF.out.1
              obtain ⟨d1, hd1⟩ : ∃ d : Nat, d = v / 256 := ⟨_, rfl⟩
              obtain ⟨d2, hd2⟩ : ∃ d : Nat, d = v % 256 := ⟨_, rfl⟩
              have HD : Hid (d1 = v / 256 ∧ d2 = v % 256) := ⟨hd1, hd2⟩
              have t1 : Int.tdiv (v : Int) 256 = (d1 : Int) := by rw [Int.tdiv_eq_ediv_of_nonneg (by omega)]; omega
              have t2 : Int.tmod (v : Int) 256 = (d2 : Int) := by rw [Int.tmod_eq_emod_of_nonneg (by omega)]; omega
              have t3 : IntKind.u8.wrap (d1 : Int) = (d1 : Int) := u8_s _ (by omega) (by have := HV6.out; omega)
              have t4 : IntKind.u8.wrap (d2 : Int) = (d2 : Int) := u8_s _ (by omega) (by omega)
              have t5 : IntKind.i64.wrap (d1 : Int) = (d1 : Int) := i64_s _ (by omega) (by have := HV6.out; omega)
              have t6 : IntKind.i64.wrap (d2 : Int) = (d2 : Int) := i64_s _ (by omega) (by omega)
              obtain ⟨k2, hk2⟩ : ∃ k2, k2 = 2 * k := ⟨_, rfl⟩
              have HK2 : Hid (k2 = 2 * k) := hk2
              have s1 : IntKind.i64.wrap (2 * (k : Int)) = (k2 : Int) := by rw [i64_s _ (by omega) (by have := HK8.out; omega)]; omega
              have s2 : IntKind.i64.wrap ((k2 : Int) + 1) = (k2 : Int) + 1 := i64_s _ (by omega) (by have := HK8.out; omega)
              have l1 : (k2 : Int) < 16 := by have := HK8.out; omega
              have l2 : (k2 : Int) + 1 < 16 := by have := HK8.out; omega
              have P1 := HF.out.2.2.1.put k2 (y := up1 (fil X i) k2 d1) (by have := HK8.out; omega) (fun j hj => by unfold up1; rw [if_neg hj])
              have e1 : up1 (fil X i) k2 d1 k2 = d1 := by unfold up1; rw [if_pos rfl]
              rw [e1] at P1
              have f1 := HF.out.2.2.1.fz k2
              have g1 := HF.out.2.2.1.get k2 (by have := HK8.out; omega)
              obtain ⟨w5, hw5⟩ : ∃ w5, w5 = wr.setCell ⟨D, k2, none⟩ (.int .u8 (d1 : Nat)) := ⟨_, rfl⟩
              rw [← hw5] at P1
              have HW5 : Hid (wr.setCell ⟨D, k2, none⟩ (.int .u8 (d1 : Nat)) = w5) := hw5.symm
              have H5 : Hid (SxAt w5 R s (.slice (some ⟨g, 0, none⟩) N c) X ∧ ArAt w5 B (arCells fun _ => 0) ∧ ArAt w5 D (arCells (up1 (fil X i) k2 d1)) ∧ Below w.heap.size w w5) := by
                have hR := HRD.out
                have hB := HOB.out
                exact ⟨HF.out.1.ch P1.2 (by omega) (fun q hq => by omega), HF.out.2.1.ch P1.2 (by omega), P1.1, HF.out.2.2.2.trans (P1.2.below (fun x hx => by omega) HF.out.2.2.2.size)⟩
              have P2 := H5.out.2.2.1.put (k2 + 1) (y := fil X (i + 1)) (by have := HK8.out; omega) (fun j hj => by
                show up1 (up1 (fil X i) (2 * kI X i) _) (2 * kI X i + 1) _ j = _
                rw [HK.out, HV.out, ← HK2.out, ← HD.out.1]
                exact up1_ne hj)
              have e2 : fil X (i + 1) (k2 + 1) = d2 := by
                show up1 (up1 (fil X i) (2 * kI X i) _) (2 * kI X i + 1) _ (k2 + 1) = _
                rw [HK.out, HV.out, ← HK2.out, ← HD.out.2]
                exact if_pos rfl
              rw [e2] at P2
              have f2 := H5.out.2.2.1.fz (k2 + 1)
              have g2 := H5.out.2.2.1.get (k2 + 1) (by have := HK8.out; omega)
              have c1' := H5.out.1.c1
              have ce' := HCE.out w5 H5.out.1
              obtain ⟨w6, hw6⟩ : ∃ w6, w6 = w5.setCell ⟨D, k2 + 1, none⟩ (.int .u8 (d2 : Nat)) := ⟨_, rfl⟩
              rw [← hw6] at P2
              have HW6 : Hid (w5.setCell ⟨D, k2 + 1, none⟩ (.int .u8 (d2 : Nat)) = w6) := hw6.symm
              have H6 : Hid (SxAt w6 R s (.slice (some ⟨g, 0, none⟩) N c) X ∧ ArAt w6 B (arCells fun _ => 0) ∧ ArAt w6 D (arCells (fil X (i + 1))) ∧ Below w.heap.size w w6) := by
                have hR := HRD.out
                have hB := HOB.out
                exact ⟨H5.out.1.ch P2.2 (by omega) (fun q hq => by omega), H5.out.2.1.ch P2.2 (by omega), P2.1, H5.out.2.2.2.trans (P2.2.below (fun x hx => by omega) H5.out.2.2.2.size)⟩
              clear P1 P2 hw5 hw6 hv hk hk2 hd1 hd2 hil hgR e1 e2
              by_cases hgap : 0 ≤ G ∧ G ≤ (i : Int)
              · have q1 : decide (0 ≤ G) = true := decide_eq_true hgap.1
                have q2 : decide (G ≤ (i : Int)) = true := decide_eq_true hgap.2
                have s3 : IntKind.i64.wrap (8 - (N : Int)) = 8 - (N : Int) := i64_s _ (by have := HN8.out; omega) (by omega)
                have s4 : IntKind.i64.wrap (8 - (N : Int) + (i : Int)) = (k : Int) := by
                  have h1 := HK.out
                  have h2 := HN8.out
                  have h3 := HIL.out
                  unfold kI at h1
                  rw [HG.out, q1, q2, ← HN.out] at h1
                  simp at h1
                  rw [i64_s _ (by omega) (by omega)]
                  omega
                clear hgap
                go_upto_region 24 with fail
                rw [HW5.out]
                go_upto_region 19 with fail
                rw [HW6.out]
                clear f1 f2 g1 g2 c1 c2 ce c1' ce'
                go_wp2_with fail
                go_roundw
                case rel => exact ⟨i + 1, HIL.out, by simp, H6.out⟩
                case measure => have := HIL.out; simp [intOf]; omega
              · have s4 : (i : Int) = (k : Int) := by
                  have h1 := HK.out
                  unfold kI at h1
                  rw [HG.out, if_neg (by simp; omega)] at h1
                  omega
                by_cases hg0 : 0 ≤ G
                · have q1 : decide (0 ≤ G) = true := decide_eq_true hg0
                  have q2 : decide (G ≤ (i : Int)) = false := decide_eq_false (by omega)
                  obtain rfl : i = k := by omega
                  clear hgap hg0 s4
                  go_upto_region 24 with fail
                  rw [HW5.out]
                  go_upto_region 19 with fail
                  rw [HW6.out]
                  clear f1 f2 g1 g2 c1 c2 ce c1' ce'
                  go_wp2_with fail
                  go_roundw
                  case rel => exact ⟨i + 1, HIL.out, by simp, H6.out⟩
                  case measure => have := HIL.out; simp [intOf]; omega
                · have q1 : decide (0 ≤ G) = false := decide_eq_false hg0
                  obtain rfl : i = k := by omega
                  clear hgap hg0 s4
                  go_upto_region 24 with fail
                  rw [HW5.out]
                  go_upto_region 19 with fail
                  rw [HW6.out]
                  clear f1 f2 g1 g2 c1 c2 ce c1' ce'
                  go_wp2_with fail
                  go_roundw
                  case rel => exact ⟨i + 1, HIL.out, by simp, H6.out⟩
                  case measure => have := HIL.out; simp [intOf]; omega
            · have p1 : decide ((i : Int) < (N : Int)) = false := decide_eq_false (by omega)
              have p2 : decide (i < N) = false := decide_eq_false hil
              have c1 := HF.out.1.c1
              have HIN : Hid (i = X.g.length) := by show _ = _; rw [← HN.out]; omega
              clear hil hi
              go_wp2_with (first | (refine wpList_load_ar (.tmp 5) rfl D 0 (fil X i) rfl HF.out.2.2.1.range rfl ?_) | (refine wpList_store_ar (.tmp 2) (.tmp 142) rfl rfl B (fun _ => 0) (fil X i) rfl rfl HF.out.2.1 rfl ?_))
              intro w7 h7 k7
              have H7 : Hid (ArAt w7 B (arCells (fil X i)) ∧ Below w.heap.size w w7) := ⟨h7, HF.out.2.2.2.trans (k7.below (fun x hx => by have := HOB.out; omega) HF.out.2.2.2.size)⟩
              clear h7 k7
              go_wp2_with fail
              refine bodyPost_ret (results_ar3 rfl _ _ B _ rfl H7.out.1) rfl ?_
              exact ⟨by rw [HXE.out, ← HIN.out]; rfl, H7.out.2⟩
        · have q1 : decide (G < 0) = false := decide_eq_false hg
          clear hg
          go_wp2
          go_loopw [9] (fun iv wf => ∃ i : Nat, i ≤ N ∧ iv = .int .i64 (i : Nat) ∧ Hid (SxAt wf R s (.slice a N c) X ∧ ArAt wf B (arCells fun _ => 0) ∧ ArAt wf D (arCells (fil X i)) ∧ Below w.heap.size w wf)) (fun iv _ => N - (intOf iv).toNat)
          case atStart => exact ⟨0, Nat.zero_le _, rfl, ⟨HA.out.1, HA.out.2.1, HA.out.2.2.1, HA.out.2.2.2⟩⟩
          case round =>
            obtain ⟨i, hi, rfl, HF⟩ := hrel
            clear c1 c2 c4
            by_cases hil : i < N
            · have p1 : decide ((i : Int) < (N : Int)) = true := decide_eq_true (by omega)
              have p2 : decide (i < N) = true := decide_eq_true hil
              have HIL : Hid (i < N) := hil
              have w1 : IntKind.i64.wrap ((i : Int) + 1) = (i : Int) + 1 := i64_s _ (by omega) (by have := HN8.out; omega)
              obtain ⟨k, hk⟩ : ∃ k, kI X i = k := ⟨_, rfl⟩
              have HK : Hid (kI X i = k) := hk
              have HK8 : Hid (k < 8) := by
                show k < 8
                rw [← hk]
                unfold kI
                have h1 := HN8.out
                rw [← HN.out]
                split <;> omega
              have HSH : Hid (∃ g, a = some ⟨g, 0, none⟩ ∧ R + 1 ≤ g) := by
                rcases HF.out.1.own.2 with ⟨h1, h2⟩ | ⟨g, cap, cur, hv, hg, r⟩
                · simp at h1
                  have := h1.2.1
                  omega
                · simp at hv
                  exact ⟨g, hv.1, hg⟩
              obtain ⟨g, hga, hgR⟩ := HSH.out
              subst hga
              have HGR : Hid (R + 1 ≤ g) := hgR
              obtain ⟨v, hv⟩ : ∃ v, X.g.getD i 0 = v := ⟨_, rfl⟩
              have HV : Hid (X.g.getD i 0 = v) := hv
              have HV6 : Hid (v < 65536) := by
                show v < 65536
                have hl : i < X.g.length := by rw [← HN.out]; exact hil
                rw [← hv, List.getD_eq_getElem?_getD, List.getElem?_eq_getElem hl]
                exact HOK.out.b _ (List.getElem_mem hl)
              have HCE : Hid (∀ ww, SxAt ww R s (.slice (some ⟨g, 0, none⟩) N c) X → ww.cell? ⟨g, i, none⟩ = some (.int .i64 (v : Nat))) := fun ww hww => by
                have hl : i < X.g.length := by rw [← HN.out]; exact HIL.out
                have ho := hww.own
                rw [← HN.out] at ho
                have h1 := ho.cellAt i (by simpa using HIL.out)
                rw [h1, List.getElem?_map, List.getElem?_eq_getElem hl, ← HV.out, List.getD_eq_getElem?_getD, List.getElem?_eq_getElem hl]
                rfl
              have c1 := HF.out.1.c1
              have c2 : wr.cell? ⟨R, 2, none⟩ = some (.int .i64 G) := HF.out.1.c2.trans (by rw [HG.out])
              have ce := HCE.out wr HF.out.1
              obtain ⟨d1, hd1⟩ : ∃ d : Nat, d = v / 256 := ⟨_, rfl⟩
              obtain ⟨d2, hd2⟩ : ∃ d : Nat, d = v % 256 := ⟨_, rfl⟩
              have HD : Hid (d1 = v / 256 ∧ d2 = v % 256) := ⟨hd1, hd2⟩
              have t1 : Int.tdiv (v : Int) 256 = (d1 : Int) := by rw [Int.tdiv_eq_ediv_of_nonneg (by omega)]; omega
              have t2 : Int.tmod (v : Int) 256 = (d2 : Int) := by rw [Int.tmod_eq_emod_of_nonneg (by omega)]; omega
              have t3 : IntKind.u8.wrap (d1 : Int) = (d1 : Int) := u8_s _ (by omega) (by have := HV6.out; omega)
              have t4 : IntKind.u8.wrap (d2 : Int) = (d2 : Int) := u8_s _ (by omega) (by omega)
              have t5 : IntKind.i64.wrap (d1 : Int) = (d1 : Int) := i64_s _ (by omega) (by have := HV6.out; omega)
              have t6 : IntKind.i64.wrap (d2 : Int) = (d2 : Int) := i64_s _ (by omega) (by omega)
              obtain ⟨k2, hk2⟩ : ∃ k2, k2 = 2 * k := ⟨_, rfl⟩
              have HK2 : Hid (k2 = 2 * k) := hk2
              have s1 : IntKind.i64.wrap (2 * (k : Int)) = (k2 : Int) := by rw [i64_s _ (by omega) (by have := HK8.out; omega)]; omega
              have s2 : IntKind.i64.wrap ((k2 : Int) + 1) = (k2 : Int) + 1 := i64_s _ (by omega) (by have := HK8.out; omega)
              have l1 : (k2 : Int) < 16 := by have := HK8.out; omega
              have l2 : (k2 : Int) + 1 < 16 := by have := HK8.out; omega
              have P1 := HF.out.2.2.1.put k2 (y := up1 (fil X i) k2 d1) (by have := HK8.out; omega) (fun j hj => by unfold up1; rw [if_neg hj])
              have e1 : up1 (fil X i) k2 d1 k2 = d1 := by unfold up1; rw [if_pos rfl]
              rw [e1] at P1
              have f1 := HF.out.2.2.1.fz k2
              have g1 := HF.out.2.2.1.get k2 (by have := HK8.out; omega)
              obtain ⟨w5, hw5⟩ : ∃ w5, w5 = wr.setCell ⟨D, k2, none⟩ (.int .u8 (d1 : Nat)) := ⟨_, rfl⟩
              rw [← hw5] at P1
              have HW5 : Hid (wr.setCell ⟨D, k2, none⟩ (.int .u8 (d1 : Nat)) = w5) := hw5.symm
              have H5 : Hid (SxAt w5 R s (.slice (some ⟨g, 0, none⟩) N c) X ∧ ArAt w5 B (arCells fun _ => 0) ∧ ArAt w5 D (arCells (up1 (fil X i) k2 d1)) ∧ Below w.heap.size w w5) := by
                have hR := HRD.out
                have hB := HOB.out
                exact ⟨HF.out.1.ch P1.2 (by omega) (fun q hq => by omega), HF.out.2.1.ch P1.2 (by omega), P1.1, HF.out.2.2.2.trans (P1.2.below (fun x hx => by omega) HF.out.2.2.2.size)⟩
              have P2 := H5.out.2.2.1.put (k2 + 1) (y := fil X (i + 1)) (by have := HK8.out; omega) (fun j hj => by
                show up1 (up1 (fil X i) (2 * kI X i) _) (2 * kI X i + 1) _ j = _
                rw [HK.out, HV.out, ← HK2.out, ← HD.out.1]
                exact up1_ne hj)
              have e2 : fil X (i + 1) (k2 + 1) = d2 := by
                show up1 (up1 (fil X i) (2 * kI X i) _) (2 * kI X i + 1) _ (k2 + 1) = _
                rw [HK.out, HV.out, ← HK2.out, ← HD.out.2]
                exact if_pos rfl
              rw [e2] at P2
              have f2 := H5.out.2.2.1.fz (k2 + 1)
              have g2 := H5.out.2.2.1.get (k2 + 1) (by have := HK8.out; omega)
              have c1' := H5.out.1.c1
              have ce' := HCE.out w5 H5.out.1
              obtain ⟨w6, hw6⟩ : ∃ w6, w6 = w5.setCell ⟨D, k2 + 1, none⟩ (.int .u8 (d2 : Nat)) := ⟨_, rfl⟩
              rw [← hw6] at P2
              have HW6 : Hid (w5.setCell ⟨D, k2 + 1, none⟩ (.int .u8 (d2 : Nat)) = w6) := hw6.symm
              have H6 : Hid (SxAt w6 R s (.slice (some ⟨g, 0, none⟩) N c) X ∧ ArAt w6 B (arCells fun _ => 0) ∧ ArAt w6 D (arCells (fil X (i + 1))) ∧ Below w.heap.size w w6) := by
                have hR := HRD.out
                have hB := HOB.out
                exact ⟨H5.out.1.ch P2.2 (by omega) (fun q hq => by omega), H5.out.2.1.ch P2.2 (by omega), P2.1, H5.out.2.2.2.trans (P2.2.below (fun x hx => by omega) H5.out.2.2.2.size)⟩
              clear P1 P2 hw5 hw6 hv hk hk2 hd1 hd2 hil hgR e1 e2
              by_cases hgap : 0 ≤ G ∧ G ≤ (i : Int)
              · have q1 : decide (0 ≤ G) = true := decide_eq_true hgap.1
                have q2 : decide (G ≤ (i : Int)) = true := decide_eq_true hgap.2
                have s3 : IntKind.i64.wrap (8 - (N : Int)) = 8 - (N : Int) := i64_s _ (by have := HN8.out; omega) (by omega)
                have s4 : IntKind.i64.wrap (8 - (N : Int) + (i : Int)) = (k : Int) := by
                  have h1 := HK.out
                  have h2 := HN8.out
                  have h3 := HIL.out
                  unfold kI at h1
                  rw [HG.out, q1, q2, ← HN.out] at h1
                  simp at h1
                  rw [i64_s _ (by omega) (by omega)]
                  omega
                clear hgap
                go_upto_region 24 with fail
                rw [HW5.out]
                go_upto_region 19 with fail
                rw [HW6.out]
                clear f1 f2 g1 g2 c1 c2 ce c1' ce'
                go_wp2_with fail
                go_roundw
                case rel => exact ⟨i + 1, HIL.out, by simp, H6.out⟩
                case measure => have := HIL.out; simp [intOf]; omega
              · have s4 : (i : Int) = (k : Int) := by
                  have h1 := HK.out
                  unfold kI at h1
                  rw [HG.out, if_neg (by simp; omega)] at h1
                  omega
                by_cases hg0 : 0 ≤ G
                · have q1 : decide (0 ≤ G) = true := decide_eq_true hg0
                  have q2 : decide (G ≤ (i : Int)) = false := decide_eq_false (by omega)
                  obtain rfl : i = k := by omega
                  clear hgap hg0 s4
                  go_upto_region 24 with fail
                  rw [HW5.out]
                  go_upto_region 19 with fail
                  rw [HW6.out]
                  clear f1 f2 g1 g2 c1 c2 ce c1' ce'
                  go_wp2_with fail
                  go_roundw
                  case rel => exact ⟨i + 1, HIL.out, by simp, H6.out⟩
                  case measure => have := HIL.out; simp [intOf]; omega
                · have q1 : decide (0 ≤ G) = false := decide_eq_false hg0
                  obtain rfl : i = k := by omega
                  clear hgap hg0 s4
                  go_upto_region 24 with fail
                  rw [HW5.out]
                  go_upto_region 19 with fail
                  rw [HW6.out]
                  clear f1 f2 g1 g2 c1 c2 ce c1' ce'
                  go_wp2_with fail
                  go_roundw
                  case rel => exact ⟨i + 1, HIL.out, by simp, H6.out⟩
                  case measure => have := HIL.out; simp [intOf]; omega
            · have p1 : decide ((i : Int) < (N : Int)) = false := decide_eq_false (by omega)
              have p2 : decide (i < N) = false := decide_eq_false hil
              have c1 := HF.out.1.c1
              have HIN : Hid (i = X.g.length) := by show _ = _; rw [← HN.out]; omega
              clear hil hi
              go_wp2_with (first | (refine wpList_load_ar (.tmp 5) rfl D 0 (fil X i) rfl HF.out.2.2.1.range rfl ?_) | (refine wpList_store_ar (.tmp 2) (.tmp 142) rfl rfl B (fun _ => 0) (fil X i) rfl rfl HF.out.2.1 rfl ?_))
              intro w7 h7 k7
              have H7 : Hid (ArAt w7 B (arCells (fil X i)) ∧ Below w.heap.size w w7) := ⟨h7, HF.out.2.2.2.trans (k7.below (fun x hx => by have := HOB.out; omega) HF.out.2.2.2.size)⟩
              clear h7 k7
              go_wp2_with fail
              refine bodyPost_ret (results_ar3 rfl _ _ B _ rfl H7.out.1) rfl ?_
              exact ⟨by rw [HXE.out, ← HIN.out]; rfl, H7.out.2⟩
      | false =>
        have HER : Hid (X.er = 0) := by
          show X.er = 0
          by_cases he : X.er = 0
          · exact he
          · have := HI.out.2.1
            rw [slp_end (by simp [he])] at this
            have h2 := HOKE.out
            rw [← this] at h2
            exact h2
        have HM0 : Hid (mZ s (X, false) = s.size + 1 - X.p) := by show _ = _; unfold mZ; rw [HER.out]; rfl
        obtain ⟨f', hf'⟩ : ∃ f', f = f' + 1 := ⟨f - 1, by have h1 := HI.out.2.2; have h2 := HM0.out; have h3 := HOK.out.p; omega⟩
        subst hf'
        have HSL : Hid (slp s f' (rnd s X) = sxL s) := by
          have h1 := HI.out.2.1
          unfold slp at h1
          rw [HER.out] at h1
          exact h1
        have HLE : Hid (mZ s (rnd s X) < s.size + 1 - X.p) := rnd_less HND.out HOK.out
        have HLF : Hid (mZ s (rnd s X) ≤ f') := by have h1 := HLE.out; have h2 := HI.out.2.2; have h3 := HM0.out; show _ ≤ _; omega
        have HME : Hid (sxM s R (.bool false) wr = s.size + 1 - X.p) := by show _ = _; rw [sxM_eq HA.out.1, HM0.out]
        have c4 : wr.cell? ⟨R, 4, none⟩ = some (.int .i64 0) := HA.out.1.c4.trans (by rw [HER.out]; rfl)
        go_wp2_with fail
        refine (group_plain R s lv X wr HA.out.1 HOK.out.p HS.out HOK.out.l HND.out).mono ?_
        rintro e1 w4 ⟨rfl, ⟨lv2, k1⟩, k2⟩
        obtain ⟨Y, hY⟩ : ∃ Y, grp s X = Y := ⟨_, rfl⟩
        rw [hY] at k1 ⊢
        have HY : Hid (grp s X = Y) := hY
        have HAY : Hid (SxAt w4 R s lv2 Y.1 ∧ ArAt w4 B (arCells fun _ => 0) ∧ ArAt w4 D (arCells fun _ => 0) ∧ Below w.heap.size w w4) := by
          have hR := HRD.out
          have hB := HOB.out
          exact ⟨k1, HA.out.2.1.lowb k2 (by omega), HA.out.2.2.1.lowb k2 (by omega), HA.out.2.2.2.trans (k2.mono (by omega))⟩
        obtain ⟨Y1, bd⟩ := Y
        simp only at HAY ⊢
        clear hY k1 k2 c4
        cases bd with
        | true =>
          have HRN : Hid (rnd s X = (Y1, true)) := by show _ = _; unfold rnd; rw [HY.out]; rfl
          go_wp2
          go_roundw
          case rel => exact ⟨Y1, true, lv2, f', rfl, ⟨by have := rnd_ok HND.out HOK.out; rw [HRN.out] at this; exact this, by have := HSL.out; rw [HRN.out] at this; exact this, by have := HLF.out; rw [HRN.out] at this; exact this⟩, HAY.out⟩
          case measure => rw [HME.out, sxM_eq HAY.out.1]; have := HLE.out; rw [HRN.out] at this; exact this
        | false =>
          by_cases he : Y1.er = 0
          · have HYE : Hid (Y1.er = 0) := he
            have HRN : Hid (rnd s X = btw s Y1) := by show _ = _; unfold rnd; rw [HY.out]; simp only; rw [he]; rfl
            have HYP : Hid (Y1.p < s.size) := by have := (grp_go HND.out HOK.out (by rw [HY.out])).2; rw [HY.out] at this; exact this
            have c4 : w4.cell? ⟨R, 4, none⟩ = some (.int .i64 0) := HAY.out.1.c4.trans (by rw [he]; rfl)
            clear he
            go_wp2_with fail
            refine (between_any R s lv2 Y1 w4 HAY.out.1 HYP.out HS.out).mono ?_
            rintro e1 w5 ⟨rfl, k1, k2⟩
            obtain ⟨U, hU⟩ : ∃ U, btw s Y1 = U := ⟨_, rfl⟩
            rw [hU] at k1 ⊢
            have HU : Hid (rnd s X = U) := HRN.out.trans hU
            have HAU : Hid (SxAt w5 R s lv2 U.1 ∧ ArAt w5 B (arCells fun _ => 0) ∧ ArAt w5 D (arCells fun _ => 0) ∧ Below w.heap.size w w5) := by
              have hR := HRD.out
              have hB := HOB.out
              exact ⟨k1, HAY.out.2.1.ch k2 (by omega), HAY.out.2.2.1.ch k2 (by omega), HAY.out.2.2.2.trans (k2.below (fun x hx => by omega) HAY.out.2.2.2.size)⟩
            obtain ⟨U1, ud⟩ := U
            simp only at HAU ⊢
            clear hU k1 k2 c4
            go_wp2
            go_roundw
            case rel => exact ⟨U1, ud, lv2, f', rfl, ⟨by have := rnd_ok HND.out HOK.out; rw [HU.out] at this; exact this, by have := HSL.out; rw [HU.out] at this; exact this, by have := HLF.out; rw [HU.out] at this; exact this⟩, HAU.out⟩
            case measure => rw [HME.out, sxM_eq HAU.out.1]; have := HLE.out; rw [HU.out] at this; exact this
          · have HRN : Hid (rnd s X = (Y1, false)) := by show _ = _; unfold rnd; rw [HY.out]; simp [he]
            have c4 := HAY.out.1.c4
            have q1 : (((Y1.er : Nat) : Int) == 0) = false := by simp [he]
            clear he
            go_wp2
            go_roundw
            case rel => exact ⟨Y1, false, lv2, f', rfl, ⟨by have := rnd_ok HND.out HOK.out; rw [HRN.out] at this; exact this, by have := HSL.out; rw [HRN.out] at this; exact this, by have := HLF.out; rw [HRN.out] at this; exact this⟩, HAY.out⟩
            case measure => rw [HME.out, sxM_eq HAY.out.1]; have := HLE.out; rw [HRN.out] at this; exact this
end Go.Proofs.YteldiggaooeeeaaGreatDoor
