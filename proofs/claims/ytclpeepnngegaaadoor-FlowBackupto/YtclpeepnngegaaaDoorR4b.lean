/-
  weirref4: decimal.
-/
import Derived.Test.YtclpeepnngegaaaDoorR4a
namespace Go.Proofs.YtclpeepnngegaaaDoor
open Go.RowKit Go.Maps

/-- the number of k digits from p on -/
def dcN (s : ByteArray) (p : Nat) : Nat → Nat
  | 0 => 0
  | k + 1 => 10 * dcN s p k + (sB s (p + k) - 48)
def dcm (s : ByteArray) (p q most : Nat) : Int := if decide (3 < q - p) || (decide (1 < q - p) && sB s p == 48) then -1 else if most < dcN s p (q - p) then -1 else (dcN s p (q - p) : Nat)
theorem dcN_lt {s : ByteArray} {p : Nat} : ∀ k, (∀ i, i < k → dgB (sB s (p + i)) = true) → dcN s p k < 10 ^ k
  | 0, _ => by simp [dcN]
  | k + 1, h => by
    have h1 := dcN_lt k (fun i hi => h i (by omega))
    have h2 := h k (by omega)
    simp [dgB] at h2
    unfold dcN
    rw [Nat.pow_succ]
    omega
theorem dcN_small {s : ByteArray} {p k : Nat} (hk : k ≤ 3) (h : ∀ i, i < k → dgB (sB s (p + i)) = true) : dcN s p k < 1000 := by
  have h1 := dcN_lt k h
  have h2 : 10 ^ k ≤ 10 ^ 3 := Nat.pow_le_pow_right (by omega) hk
  omega
set_option maxHeartbeats 1600000 in
set_option maxRecDepth 100000 in
theorem decimal_any (s : ByteArray) (p q most : Nat) (w : World) (hp : p ≤ q) (hq : q ≤ s.size) (hs : s.size ≤ 100000) (hd : ∀ i, i < q - p → dgB (sB s (p + i)) = true) : Calls Tryd.prog 77 #[.string s, .int .i64 (p : Nat), .int .i64 (q : Nat), .int .i64 (most : Nat)] w fun r w' => r = .returned (.int .i64 (dcm s p q most)) ∧ w = w' := by
  have HP : Hid (p ≤ q) := hp
  have HQ : Hid (q ≤ s.size) := hq
  have HS : Hid (s.size ≤ 100000) := hs
  have HD : Hid (∀ i, i < q - p → dgB (sB s (p + i)) = true) := hd
  have w1 : IntKind.i64.wrap ((q : Int) - (p : Int)) = (q : Int) - (p : Int) := i64_s _ (by omega) (by omega)
  clear hp hq hs hd
  go_enter Tryd.func77, Tryd.ntmps77
  by_cases h3 : 3 < q - p
  · have q3 : decide ((3 : Int) < (q : Int) - (p : Int)) = true := decide_eq_true (by omega)
    have HR : Hid (dcm s p q most = -1) := by show _ = _; unfold dcm; rw [decide_eq_true h3]; rfl
    clear h3
    go_wp2
    go_ret
    exact ⟨by rw [HR.out]; rfl, rfl⟩
  · have q3 : decide ((3 : Int) < (q : Int) - (p : Int)) = false := decide_eq_false (by omega)
    have H3 : Hid (q - p ≤ 3) := by show _ ≤ _; omega
    obtain ⟨b, hb⟩ : ∃ b, (decide (1 < q - p) && sB s p == 48) = b := ⟨_, rfl⟩
    have HB : Hid ((decide (1 < q - p) && sB s p == 48) = b) := hb
    have HF : Hid (decide (3 < q - p) = false) := decide_eq_false h3
    clear h3 hb
    cases b with
    | true =>
      have h := HB.out
      simp at h
      have H0 : Hid (p < s.size) := by have := HQ.out; show _ < _; omega
      have q1 : decide ((1 : Int) < (q : Int) - (p : Int)) = true := decide_eq_true (by omega)
      have q2 : (((sB s p : Nat) : Int) == 48) = true := by simp [h.2]
      have HR : Hid (dcm s p q most = -1) := by show _ = _; unfold dcm; rw [HB.out, HF.out]; rfl
      clear h
      go_wp2_with (first | (refine wpList_sB (.tmp 21) (.tmp 22) rfl s p _ rfl rfl rfl H0.out rfl ?_))
      go_ret
      exact ⟨by rw [HR.out]; rfl, rfl⟩
    | false =>
      have HR : Hid (dcm s p q most = if most < dcN s p (q - p) then (-1 : Int) else ((dcN s p (q - p) : Nat) : Int)) := by show _ = _; unfold dcm; rw [HB.out, HF.out]; rfl
      by_cases h1 : 1 < q - p
      · have q1 : decide ((1 : Int) < (q : Int) - (p : Int)) = true := decide_eq_true (by omega)
        have H0 : Hid (p < s.size) := by have := HQ.out; show _ < _; omega
        have q2 : (((sB s p : Nat) : Int) == 48) = false := by have := HB.out; simp [h1] at this; simp; omega
        clear h1
        go_wp2_with (first | (refine wpList_sB (.tmp 21) (.tmp 22) rfl s p _ rfl rfl rfl H0.out rfl ?_))
        go_loopw [9, 10] (fun nv ix wr => ∃ i n : Nat, p ≤ i ∧ i ≤ q ∧ ix = .int .i64 (i : Nat) ∧ nv = .int .i64 (n : Nat) ∧ Hid (n = dcN s p (i - p)) ∧ w = wr) (fun _ ix _ => q - (intOf ix).toNat)
        case atStart => exact ⟨p, 0, Nat.le_refl _, HP.out, rfl, rfl, by show _ = _; rw [Nat.sub_self]; rfl, rfl⟩
        case round =>
          obtain ⟨i, n, hi1, hi2, rfl, rfl, HNN, rfl⟩ := hrel
          have HI : Hid (p ≤ i ∧ i ≤ q) := ⟨hi1, hi2⟩
          have HLT0 : Hid (n < 1000) := by show n < 1000; rw [HNN.out]; exact dcN_small (by have := H3.out; omega) (fun j hj => HD.out j (by omega))
          clear hi1 hi2
          by_cases hlt : i < q
          · have p1 : decide ((i : Int) < (q : Int)) = true := decide_eq_true (by omega)
            have p0 : decide (i < q) = true := decide_eq_true hlt
            have HD1 : Hid (48 ≤ sB s i ∧ sB s i ≤ 57) := by
              have := HD.out (i - p) (by have := HI.out; omega)
              rw [show p + (i - p) = i by have := HI.out; omega] at this
              simp [dgB] at this
              exact this
            have HIS : Hid (i < s.size) := by have := HQ.out; show i < _; omega
            have HLT : Hid (i < q) := hlt
            obtain ⟨d, hd⟩ : ∃ d : Nat, d = sB s i - 48 := ⟨_, rfl⟩
            have HDE : Hid (d = sB s i - 48) := hd
            clear hd
            have HD9 : Hid (d ≤ 9) := by have h1 := HDE.out; have h2 := HD1.out; show d ≤ 9; omega
            have x1 : IntKind.u8.wrap (((sB s i : Nat) : Int) - 48) = (d : Int) := by have h1 := HDE.out; have h2 := HD1.out; rw [u8_s _ (by omega) (by omega)]; omega
            have x2 : IntKind.i64.wrap (10 * (n : Int)) = 10 * (n : Int) := i64_s _ (by omega) (by have := HLT0.out; omega)
            have x3 : IntKind.i64.wrap (d : Int) = (d : Int) := i64_s _ (by omega) (by have := HD9.out; omega)
            have x4 : IntKind.i64.wrap (10 * (n : Int) + (d : Int)) = 10 * (n : Int) + (d : Int) := i64_s _ (by omega) (by have := HD9.out; have := HLT0.out; omega)
            have x5 : IntKind.i64.wrap ((i : Int) + 1) = (i : Int) + 1 := i64_s _ (by omega) (by have := HS.out; have := HIS.out; omega)
            clear hlt
            go_wp2_with (refine wpList_sB (.tmp 35) (.tmp 36) rfl s i _ rfl rfl rfl HIS.out rfl ?_)
            go_roundw
            case rel =>
              refine ⟨i + 1, 10 * n + d, by have := HI.out; omega, HLT.out, by simp, by simp, ?_, by first | rfl | trivial⟩
              show _ = _
              rw [show i + 1 - p = (i - p) + 1 by have := HI.out; omega]
              unfold dcN
              rw [← HNN.out, HDE.out, show p + (i - p) = i by have := HI.out; omega]
            case measure => have := HLT.out; simp [intOf]; omega
          · have p1 : decide ((i : Int) < (q : Int)) = false := decide_eq_false (by omega)
            have p0 : decide (i < q) = false := decide_eq_false hlt
            have HNE : Hid (n = dcN s p (q - p)) := by show _ = _; rw [HNN.out, show i = q by have := HI.out; omega]
            clear hlt
            by_cases hm : most < n
            · have m1 : decide ((most : Int) < (n : Int)) = true := decide_eq_true (by omega)
              have m0 : decide (most < n) = true := decide_eq_true hm
              have HZ : Hid (dcm s p q most = -1) := by show _ = _; rw [HR.out, ← HNE.out, if_pos hm]
              clear hm
              go_wp2
              go_ret
              exact ⟨by rw [HZ.out]; rfl, rfl⟩
            · have m1 : decide ((most : Int) < (n : Int)) = false := decide_eq_false (by omega)
              have m0 : decide (most < n) = false := decide_eq_false hm
              have HZ : Hid (dcm s p q most = (n : Nat)) := by show _ = _; rw [HR.out, ← HNE.out, if_neg hm]
              clear hm
              go_wp2
              go_ret
              exact ⟨by rw [HZ.out]; rfl, rfl⟩
      · have q1 : decide ((1 : Int) < (q : Int) - (p : Int)) = false := decide_eq_false (by omega)
        clear h1
        go_wp2
        go_loopw [9, 10] (fun nv ix wr => ∃ i n : Nat, p ≤ i ∧ i ≤ q ∧ ix = .int .i64 (i : Nat) ∧ nv = .int .i64 (n : Nat) ∧ Hid (n = dcN s p (i - p)) ∧ w = wr) (fun _ ix _ => q - (intOf ix).toNat)
        case atStart => exact ⟨p, 0, Nat.le_refl _, HP.out, rfl, rfl, by show _ = _; rw [Nat.sub_self]; rfl, rfl⟩
        case round =>
          obtain ⟨i, n, hi1, hi2, rfl, rfl, HNN, rfl⟩ := hrel
          have HI : Hid (p ≤ i ∧ i ≤ q) := ⟨hi1, hi2⟩
          have HLT0 : Hid (n < 1000) := by show n < 1000; rw [HNN.out]; exact dcN_small (by have := H3.out; omega) (fun j hj => HD.out j (by omega))
          clear hi1 hi2
          by_cases hlt : i < q
          · have p1 : decide ((i : Int) < (q : Int)) = true := decide_eq_true (by omega)
            have p0 : decide (i < q) = true := decide_eq_true hlt
            have HD1 : Hid (48 ≤ sB s i ∧ sB s i ≤ 57) := by
              have := HD.out (i - p) (by have := HI.out; omega)
              rw [show p + (i - p) = i by have := HI.out; omega] at this
              simp [dgB] at this
              exact this
            have HIS : Hid (i < s.size) := by have := HQ.out; show i < _; omega
            have HLT : Hid (i < q) := hlt
            obtain ⟨d, hd⟩ : ∃ d : Nat, d = sB s i - 48 := ⟨_, rfl⟩
            have HDE : Hid (d = sB s i - 48) := hd
            clear hd
            have HD9 : Hid (d ≤ 9) := by have h1 := HDE.out; have h2 := HD1.out; show d ≤ 9; omega
            have x1 : IntKind.u8.wrap (((sB s i : Nat) : Int) - 48) = (d : Int) := by have h1 := HDE.out; have h2 := HD1.out; rw [u8_s _ (by omega) (by omega)]; omega
            have x2 : IntKind.i64.wrap (10 * (n : Int)) = 10 * (n : Int) := i64_s _ (by omega) (by have := HLT0.out; omega)
            have x3 : IntKind.i64.wrap (d : Int) = (d : Int) := i64_s _ (by omega) (by have := HD9.out; omega)
            have x4 : IntKind.i64.wrap (10 * (n : Int) + (d : Int)) = 10 * (n : Int) + (d : Int) := i64_s _ (by omega) (by have := HD9.out; have := HLT0.out; omega)
            have x5 : IntKind.i64.wrap ((i : Int) + 1) = (i : Int) + 1 := i64_s _ (by omega) (by have := HS.out; have := HIS.out; omega)
            clear hlt
            go_wp2_with (refine wpList_sB (.tmp 35) (.tmp 36) rfl s i _ rfl rfl rfl HIS.out rfl ?_)
            go_roundw
            case rel =>
              refine ⟨i + 1, 10 * n + d, by have := HI.out; omega, HLT.out, by simp, by simp, ?_, by first | rfl | trivial⟩
              show _ = _
              rw [show i + 1 - p = (i - p) + 1 by have := HI.out; omega]
              unfold dcN
              rw [← HNN.out, HDE.out, show p + (i - p) = i by have := HI.out; omega]
            case measure => have := HLT.out; simp [intOf]; omega
          · have p1 : decide ((i : Int) < (q : Int)) = false := decide_eq_false (by omega)
            have p0 : decide (i < q) = false := decide_eq_false hlt
            have HNE : Hid (n = dcN s p (q - p)) := by show _ = _; rw [HNN.out, show i = q by have := HI.out; omega]
            clear hlt
            by_cases hm : most < n
            · have m1 : decide ((most : Int) < (n : Int)) = true := decide_eq_true (by omega)
              have m0 : decide (most < n) = true := decide_eq_true hm
              have HZ : Hid (dcm s p q most = -1) := by show _ = _; rw [HR.out, ← HNE.out, if_pos hm]
              clear hm
              go_wp2
              go_ret
              exact ⟨by rw [HZ.out]; rfl, rfl⟩
            · have m1 : decide ((most : Int) < (n : Int)) = false := decide_eq_false (by omega)
              have m0 : decide (most < n) = false := decide_eq_false hm
              have HZ : Hid (dcm s p q most = (n : Nat)) := by show _ = _; rw [HR.out, ← HNE.out, if_neg hm]
              clear hm
              go_wp2
              go_ret
              exact ⟨by rw [HZ.out]; rfl, rfl⟩
end Go.Proofs.YtclpeepnngegaaaDoor
