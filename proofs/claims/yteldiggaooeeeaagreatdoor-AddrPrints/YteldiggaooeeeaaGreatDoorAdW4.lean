/-
  Layer 4: addr.reader: number.
-/
import Derived.Test.YteldiggaooeeeaaGreatDoorAdW3
namespace Go.Proofs.YteldiggaooeeeaaGreatDoor
open Go.RowKit Go.Maps

theorem cutB_size {s : ByteArray} {p q : Nat} (h1 : p ≤ q) (h2 : q ≤ s.size) : (cutB s p q).size = q - p := by
  unfold cutB
  rw [ByteArray.size_extract]
  omega
theorem sB_cut {s : ByteArray} {p q k : Nat} (_h2 : q ≤ s.size) (hk : k < q - p) : sB (cutB s p q) k = sB s (p + k) := by
  unfold sB cutB
  rw [ByteArray.data_extract, Array.toList_extract, List.extract_eq_take_drop, List.getD_eq_getElem?_getD, List.getElem?_take, if_pos hk, List.getElem?_drop, ← List.getD_eq_getElem?_getD]
theorem scn_all (s : ByteArray) (f : Nat → Bool) : ∀ n p i, p ≤ i → i < scn s f n p → f (sB s i) = true
  | 0, p, i, h1, h2 => by have : scn s f 0 p = p := rfl; omega
  | n + 1, p, i, h1, h2 => by
    unfold scn at h2
    split at h2
    · rename_i h
      simp at h
      by_cases hp : i = p
      · rw [hp]; exact h.2
      · exact scn_all s f n (p + 1) i (by omega) h2
    · omega
theorem scP_all {s : ByteArray} {f : Nat → Bool} {p i : Nat} (h1 : p ≤ i) (h2 : i < scP s f p) : f (sB s i) = true := scn_all s f _ p i h1 h2
theorem vlN_dc {s : ByteArray} {p q : Nat} (h2 : q ≤ s.size) (hd : ∀ i, p ≤ i → i < q → dgB (sB s i) = true) : ∀ k, k ≤ q - p → vlN (cutB s p q) 10 k = dcN s p k
  | 0, _ => rfl
  | k + 1, hk => by
    unfold vlN dcN
    rw [vlN_dc h2 hd k (by omega), sB_cut h2 (by omega)]
    have h3 := hd (p + k) (by omega) (by omega)
    have h4 : dgV (sB s (p + k)) = sB s (p + k) - 48 := by unfold dgV; rw [if_pos h3]
    rw [h4]
    omega
theorem vlN_hx {s : ByteArray} {p q : Nat} (h2 : q ≤ s.size) (hd : ∀ i, p ≤ i → i < q → hxB (sB s i) = true) : ∀ k, k ≤ q - p → vlN (cutB s p q) 16 k = hxN s p k
  | 0, _ => rfl
  | k + 1, hk => by
    unfold vlN hxN
    rw [vlN_hx h2 hd k (by omega), sB_cut h2 (by omega)]
    rw [dgV_wth (hd (p + k) (by omega) (by omega))]
    omega
/-- what number answers, and where it stands then -/
def nmO (s : ByteArray) (p most : Nat) : Bool := scP s dgB p == p || decide (dcm s p (scP s dgB p) most < 0)
def nmR (s : ByteArray) (p most : Nat) (why : Int) : Value := if scP s dgB p == p then .tuple #[.int .i64 0, .int .i64 ((hrE s p).1 : Nat)] else if decide (dcm s p (scP s dgB p) most < 0) then .tuple #[.int .i64 0, .int .i64 why] else .tuple #[.int .i64 (dcm s p (scP s dgB p) most), .int .i64 0]
def nmP (s : ByteArray) (p most : Nat) : Nat := if nmO s p most then p else scP s dgB p
theorem nm_no {s : ByteArray} {p most : Nat} {why : Int} (h : scP s dgB p = p) : nmR s p most why = .tuple #[.int .i64 0, .int .i64 ((hrE s p).1 : Nat)] ∧ nmP s p most = p := by unfold nmP nmR nmO; rw [h]; simp
theorem nm_why {s : ByteArray} {p q most : Nat} {why : Int} (h : scP s dgB p = q) (hq : q ≠ p) (hd : dcm s p q most < 0) : nmR s p most why = .tuple #[.int .i64 0, .int .i64 why] ∧ nmP s p most = p := by
  unfold nmP nmR nmO
  rw [h, if_neg (by simpa using hq), decide_eq_true hd]
  simp
theorem nm_yes {s : ByteArray} {p q most : Nat} {why : Int} (h : scP s dgB p = q) (hq : q ≠ p) (hd : ¬ dcm s p q most < 0) : nmR s p most why = .tuple #[.int .i64 (dcm s p q most), .int .i64 0] ∧ nmP s p most = q := by
  unfold nmP nmR nmO
  rw [h, if_neg (by simpa using hq), decide_eq_false hd]
  simp [hq]
set_option maxHeartbeats 1600000 in
set_option maxRecDepth 100000 in
theorem number_any (R : Nat) (s : ByteArray) (p most : Nat) (why : Int) (w : World) (h : RdAt w R s p) (hp : p ≤ s.size) (hs : s.size ≤ 1000) : Calls Tryz.prog 36 #[.pointer (some ⟨R, 0, none⟩), .int .i64 (most : Nat), .int .i64 why] w fun r w' => r = .returned (nmR s p most why) ∧ RdC w w' R s (nmP s p most) := by
  have H : Hid (RdC w w R s p) := RdC.start h
  have HP : Hid (p ≤ s.size ∧ s.size ≤ 1000) := ⟨hp, hs⟩
  have c1 := h.c1
  obtain ⟨q, hq⟩ : ∃ q, scP s dgB p = q := ⟨_, rfl⟩
  have HQ : Hid (scP s dgB p = q ∧ scP s (dgF 10) p = q) := ⟨hq, by rw [dgF_ten]; exact hq⟩
  have HQB : Hid (p ≤ q ∧ q ≤ s.size) := ⟨by rw [← hq]; exact scP_ge _ _ _, by rw [← hq]; exact scP_le hp⟩
  have HDG : Hid (∀ i, p ≤ i → i < q → dgB (sB s i) = true) := fun i h1 h2 => scP_all h1 (by rw [hq]; exact h2)
  clear h hp hs hq
  go_enter Tryz.func36, Tryz.ntmps36
  go_wp2_with fail
  refine (digits_any R s p 10 w H.out.1 HP.out.1 HP.out.2).mono ?_
  rintro e w1 ⟨rfl, hn⟩
  have H1 : Hid (RdC w w1 R s q) := H.out.to (by rw [HQ.out.2] at hn; exact hn)
  clear hn c1
  by_cases hqp : q = p
  · have HQP : Hid (q = p) := hqp
    rw [dgR_no (HQ.out.2.trans hqp)]
    obtain ⟨er, her⟩ : ∃ er : Nat, er = (hrE s p).1 := ⟨_, rfl⟩
    have HER : Hid (er = (hrE s p).1) := her
    have e1 : (((er : Nat) : Int) != 0) = true := by rw [her]; unfold hrE; split <;> rfl
    rw [← her]
    clear hqp her
    go_wp2
    refine bodyPost_ret (results_tmp2 rfl _ _ _) rfl ?_
    have hz := nm_no (most := most) (why := why) (HQ.out.1.trans HQP.out)
    exact ⟨by rw [hz.1, ← HER.out]; rfl, by rw [hz.2, ← HQP.out]; exact H1.out⟩
  · have HQN : Hid (q ≠ p) := hqp
    rw [dgR_yes HQ.out.2 hqp]
    obtain ⟨d, hd⟩ : ∃ d, d = cutB s p q := ⟨_, rfl⟩
    have HD : Hid (d = cutB s p q ∧ d.size = q - p) := ⟨hd, by rw [hd]; exact cutB_size HQB.out.1 HQB.out.2⟩
    rw [← hd]
    clear hqp hd
    by_cases h3 : 3 < q - p
    · have q3 : decide ((3 : Int) < (d.size : Int)) = true := decide_eq_true (by have := HD.out.2; omega)
      have q4 : decide (3 < d.size) = true := decide_eq_true (by have := HD.out.2; omega)
      have HZ : Hid (nmR s p most why = .tuple #[.int .i64 0, .int .i64 why] ∧ nmP s p most = p) := nm_why HQ.out.1 HQN.out (by unfold dcm; rw [decide_eq_true h3]; simp)
      clear h3
      go_wp2_with fail
      refine (refuse_any R s q p why w1 H1.out.1).mono ?_
      rintro e w2 ⟨rfl, k1, k2⟩
      have H2 : Hid (RdC w w2 R s p) := H1.out.to ⟨k1, k2⟩
      clear k1 k2
      go_wp2
      refine bodyPost_ret (results_tmp2 rfl _ _ _) rfl ?_
      exact ⟨by rw [HZ.out.1]; rfl, by rw [HZ.out.2]; exact H2.out⟩
    · have q3 : decide ((3 : Int) < (d.size : Int)) = false := decide_eq_false (by have := HD.out.2; omega)
      have q4 : decide (3 < d.size) = false := decide_eq_false (by have := HD.out.2; omega)
      have H3 : Hid (q - p ≤ 3) := by show _ ≤ _; omega
      have HF : Hid (decide (3 < q - p) = false) := decide_eq_false h3
      have HL : Hid (0 < d.size) := by have h1 := HD.out.2; have h2 := HQB.out; have h3 := HQN.out; show _ < _; omega
      have HS0 : Hid (sB d 0 = sB s p) := by show _ = _; rw [HD.out.1, sB_cut HQB.out.2 (by have h1 := HD.out.2; have := HL.out; omega)]; rfl
      clear h3
      obtain ⟨b, hb⟩ : ∃ b, (decide (1 < q - p) && sB s p == 48) = b := ⟨_, rfl⟩
      have HB : Hid ((decide (1 < q - p) && sB s p == 48) = b) := hb
      clear hb
      cases b with
      | true =>
        have h := HB.out
        simp at h
        have q5 : decide ((1 : Int) < (d.size : Int)) = true := decide_eq_true (by have := HD.out.2; omega)
        have q6 : decide (1 < d.size) = true := decide_eq_true (by have := HD.out.2; omega)
        have q7 : (((sB d 0 : Nat) : Int) == 48) = true := by rw [HS0.out]; simp [h.2]
        have HZ : Hid (nmR s p most why = .tuple #[.int .i64 0, .int .i64 why] ∧ nmP s p most = p) := nm_why HQ.out.1 HQN.out (by unfold dcm; rw [HB.out]; simp)
        clear h
        go_wp2_with (refine wpList_sB (.tmp 31) (.const (.int .i64 0)) rfl d 0 _ rfl rfl rfl HL.out rfl ?_)
        refine (refuse_any R s q p why w1 H1.out.1).mono ?_
        rintro e w2 ⟨rfl, k1, k2⟩
        have H2 : Hid (RdC w w2 R s p) := H1.out.to ⟨k1, k2⟩
        clear k1 k2
        go_wp2
        refine bodyPost_ret (results_tmp2 rfl _ _ _) rfl ?_
        exact ⟨by rw [HZ.out.1]; rfl, by rw [HZ.out.2]; exact H2.out⟩
      | false =>
        have HR : Hid (dcm s p q most = if most < dcN s p (q - p) then (-1 : Int) else ((dcN s p (q - p) : Nat) : Int)) := by show _ = _; unfold dcm; rw [HB.out, HF.out]; rfl
        obtain ⟨n, hn⟩ : ∃ n, vlN d 10 d.size = n := ⟨_, rfl⟩
        have HN : Hid (vlN d 10 d.size = n ∧ n = dcN s p (q - p)) := ⟨hn, by rw [← hn, HD.out.2, HD.out.1]; exact vlN_dc HQB.out.2 HDG.out _ (Nat.le_refl _)⟩
        clear hn
        by_cases hm : most < n
        · have m1 : decide ((most : Int) < (n : Int)) = true := decide_eq_true (by omega)
          have m2 : decide (most < n) = true := decide_eq_true hm
          have HZ : Hid (nmR s p most why = .tuple #[.int .i64 0, .int .i64 why] ∧ nmP s p most = p) := nm_why HQ.out.1 HQN.out (by rw [HR.out, if_pos (by rw [← HN.out.2]; exact hm)]; decide)
          clear hm
          by_cases h1 : 1 < d.size
          · have q5 : decide ((1 : Int) < (d.size : Int)) = true := decide_eq_true (by omega)
            have q6 : decide (1 < d.size) = true := decide_eq_true h1
            have q7 : (((sB d 0 : Nat) : Int) == 48) = false := by have := HB.out; have h2 := HD.out.2; rw [decide_eq_true (by omega)] at this; simp at this; rw [HS0.out]; simp; omega
            clear h1
            go_wp2_with (refine wpList_sB (.tmp 31) (.const (.int .i64 0)) rfl d 0 _ rfl rfl rfl HL.out rfl ?_)
            refine (value_any d 10 w1 (by have := HD.out.2; have := H3.out; omega) (by decide)).mono ?_
            rintro e wz ⟨rfl, rfl⟩
            rw [HN.out.1]
            go_wp2_with fail
            refine (refuse_any R s q p why w1 H1.out.1).mono ?_
            rintro e w2 ⟨rfl, k1, k2⟩
            have H2 : Hid (RdC w w2 R s p) := H1.out.to ⟨k1, k2⟩
            clear k1 k2
            go_wp2
            refine bodyPost_ret (results_tmp2 rfl _ _ _) rfl ?_
            exact ⟨by rw [HZ.out.1]; rfl, by rw [HZ.out.2]; exact H2.out⟩
          · have q5 : decide ((1 : Int) < (d.size : Int)) = false := decide_eq_false (by omega)
            have q6 : decide (1 < d.size) = false := decide_eq_false h1
            clear h1
            go_wp2_with fail
            refine (value_any d 10 w1 (by have := HD.out.2; have := H3.out; omega) (by decide)).mono ?_
            rintro e wz ⟨rfl, rfl⟩
            rw [HN.out.1]
            go_wp2_with fail
            refine (refuse_any R s q p why w1 H1.out.1).mono ?_
            rintro e w2 ⟨rfl, k1, k2⟩
            have H2 : Hid (RdC w w2 R s p) := H1.out.to ⟨k1, k2⟩
            clear k1 k2
            go_wp2
            refine bodyPost_ret (results_tmp2 rfl _ _ _) rfl ?_
            exact ⟨by rw [HZ.out.1]; rfl, by rw [HZ.out.2]; exact H2.out⟩
        · have m1 : decide ((most : Int) < (n : Int)) = false := decide_eq_false (by omega)
          have m2 : decide (most < n) = false := decide_eq_false hm
          have HY : Hid (dcm s p q most = (n : Int)) := by show _ = _; rw [HR.out, if_neg (by rw [← HN.out.2]; exact hm), HN.out.2]
          have HZ : Hid (nmR s p most why = .tuple #[.int .i64 (n : Int), .int .i64 0] ∧ nmP s p most = q) := by have := nm_yes (why := why) HQ.out.1 HQN.out (by rw [HY.out]; omega); rw [HY.out] at this; exact this
          clear hm
          by_cases h1 : 1 < d.size
          · have q5 : decide ((1 : Int) < (d.size : Int)) = true := decide_eq_true (by omega)
            have q6 : decide (1 < d.size) = true := decide_eq_true h1
            have q7 : (((sB d 0 : Nat) : Int) == 48) = false := by have := HB.out; have h2 := HD.out.2; rw [decide_eq_true (by omega)] at this; simp at this; rw [HS0.out]; simp; omega
            clear h1
            go_wp2_with (refine wpList_sB (.tmp 31) (.const (.int .i64 0)) rfl d 0 _ rfl rfl rfl HL.out rfl ?_)
            refine (value_any d 10 w1 (by have := HD.out.2; have := H3.out; omega) (by decide)).mono ?_
            rintro e wz ⟨rfl, rfl⟩
            rw [HN.out.1]
            go_wp2_with fail
            refine (value_any d 10 w1 (by have := HD.out.2; have := H3.out; omega) (by decide)).mono ?_
            rintro e wz ⟨rfl, rfl⟩
            rw [HN.out.1]
            go_wp2
            refine bodyPost_ret (results_tmp2 rfl _ _ _) rfl ?_
            exact ⟨by rw [HZ.out.1]; rfl, by rw [HZ.out.2]; exact H1.out⟩
          · have q5 : decide ((1 : Int) < (d.size : Int)) = false := decide_eq_false (by omega)
            have q6 : decide (1 < d.size) = false := decide_eq_false h1
            clear h1
            go_wp2_with fail
            refine (value_any d 10 w1 (by have := HD.out.2; have := H3.out; omega) (by decide)).mono ?_
            rintro e wz ⟨rfl, rfl⟩
            rw [HN.out.1]
            go_wp2_with fail
            refine (value_any d 10 w1 (by have := HD.out.2; have := H3.out; omega) (by decide)).mono ?_
            rintro e wz ⟨rfl, rfl⟩
            rw [HN.out.1]
            go_wp2
            refine bodyPost_ret (results_tmp2 rfl _ _ _) rfl ?_
            exact ⟨by rw [HZ.out.1]; rfl, by rw [HZ.out.2]; exact H1.out⟩
end Go.Proofs.YteldiggaooeeeaaGreatDoor
