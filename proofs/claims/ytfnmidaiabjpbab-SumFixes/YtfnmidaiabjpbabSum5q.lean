/-
  sum.FixBytes: it only reads.
-/
import Derived.Test.YtfnmidaiabjpbabSum5
namespace Go.Proofs.Ytfnmidaiabjpbab
open Go.RowKit

set_option maxHeartbeats 800000 in
theorem fixBytes_q (c : Int) (a b : Option Addr) (n1 n2 c1 c2 : Nat) (l m : List Nat) (w : World) (hn1 : l.length = n1) (hn2 : m.length = n2) (hp : Part.ok w ⟨a, c1, l⟩) (hq : Part.ok w ⟨b, c2, m⟩) (hsz : n1 ≤ 1099511627776) :
    Calls Try.prog 19 #[.int .i64 c, .slice a n1 c1, .slice b n2 c2] w fun e w' => e = .returned (.tuple #[.int .i64 (fbN c l m), .int .i64 (fbE c l m)]) ∧ ∃ k, w' = w.drewN k := by
  cases hc : isW c with
  | false =>
    go_enter Try.func19, Try.ntmps19
    go_wp2_with fail
    refine (isWord_any c w).mono ?_
    rintro e w1 ⟨rfl, rfl⟩
    rw [hc]
    go_wp2
    go_ret2
    exact ⟨ret2 (by simp [fbN, hc]) (by simp [fbE, hc]), 0, rfl⟩
  | true =>
  have hc2 := hc
  obtain ⟨c, rfl, hc3⟩ := isW_true hc
  have HC : Hid (isW (c : Int) = true) := hc2
  clear hc2 hc
  by_cases hlen : n1 = n2
  · subst hlen
    have HN : Hid (l.length = n1 ∧ m.length = n1) := ⟨hn1, hn2⟩
    have HF : Hid (fbN c l m = ((S.fixB c l m : Nat) : Int)) := by show _ = _; rw [fbN, if_pos HC.out, if_pos (by omega)]; simp
    have HE : Hid (fbE c l m = 0) := by show _ = _; rw [fbE, if_pos HC.out, if_pos (by omega)]
    obtain ⟨hs1, h256, hlc1, hcm1⟩ := hp
    obtain ⟨hs2, h2562, hlc2, hcm2⟩ := hq
    simp only at hs1 h256 hlc1 hcm1 hs2 h2562 hlc2 hcm2
    rw [hn1] at hlc1
    rw [hn2] at hlc2
    have heq : ((n1 : Int) != (n1 : Int)) = false := by simp
    clear hn1 hn2
    go_enter Try.func19, Try.ntmps19
    go_wp2_with fail
    refine (isWord_any c w).mono ?_
    rintro e w1 ⟨rfl, rfl⟩
    rw [HC.out]
    go_wp2
    go_loopw [0, 8] (fun v ix wr => ∃ k d : Nat, k ≤ n1 + 1 ∧ d ≤ 65535 ∧ ix = .int .i64 k ∧ v = .int .i64 d ∧ Hid (S.fixB d (l.drop k) (m.drop k) = S.fixB c l m) ∧ ∃ q, wr = w.drewN q) (fun _ ix _ => n1 + 1 - (intOf ix).toNat)
    case atStart => exact ⟨0, c, by omega, hc3, rfl, rfl, rfl, 0, rfl⟩
    case round =>
      obtain ⟨k, d, hk, hd, rfl, rfl, HD, q', hq'⟩ := hrel
      have hbel : Below w.heap.size w wr := by rw [hq']; exact below_drewN w q'
      have HQ' : Hid (wr = w.drewN q') := hq'
      clear hq'
      by_cases hlt : k < n1
      · have t1 := seg_rest2 (hs1.old hbel) k c1 (by rw [HN.out.1]; omega) (by rw [HN.out.1]; exact hlc1)
        have t2 := seg_rest2 (hs2.old hbel) k c2 (by rw [HN.out.2]; omega) (by rw [HN.out.2]; exact hlc2)
        have d1 : Hid ((l.drop k).length = n1 - k) := by show _ = _; rw [List.length_drop, HN.out.1]
        have d2 : Hid ((m.drop k).length = n1 - k) := by show _ = _; rw [List.length_drop, HN.out.2]
        have e1 : ∀ x ∈ l.drop k, x < 256 := fun x hx => h256 x (List.mem_of_mem_drop hx)
        have e2 : ∀ x ∈ m.drop k, x < 256 := fun x hx => h2562 x (List.mem_of_mem_drop hx)
        have hst := fixB_step d (l.drop k) (m.drop k) (by rw [d1.out, d2.out]) (by rw [d1.out]; omega)
        rw [List.drop_drop, List.drop_drop] at hst
        have hu1 := word1_le _ e1
        have hu2 := word1_le _ e2
        obtain ⟨p, hp⟩ : ∃ p, p = word1 (l.drop k) := ⟨_, rfl⟩
        obtain ⟨q, hq⟩ : ∃ q, q = word1 (m.drop k) := ⟨_, rfl⟩
        rw [← hp, ← hq] at hst
        rw [← hp] at hu1
        rw [← hq] at hu2
        have HP : Hid (p = word1 (l.drop k)) := hp
        have HQ : Hid (q = word1 (m.drop k)) := hq
        have HST : Hid (S.fixB (S.fix1 d p q) (l.drop (k + 2)) (m.drop (k + 2)) = S.fixB c l m) := by rw [hst] at HD; exact HD
        have hfl := S.fix1_le d p q
        have ht := turn_any d p q
        obtain ⟨f, hf⟩ : ∃ f, f = S.fix1 d p q := ⟨_, rfl⟩
        rw [← hf] at HST hfl
        simp only [← hf] at ht
        have HT : Hid _ := ht
        clear hp hq hst ht hf
        have b0 : (0 : Int) ≤ (k : Int) := by omega
        have b1 : (k : Int) ≤ (n1 : Int) := by omega
        have b2 : (n1 : Int) ≤ (c1 : Int) := by omega
        have b3 : (n1 : Int) ≤ (c2 : Int) := by omega
        have b4 : k ≤ n1 := by omega
        go_wp2_with fail
        go_quiet (first
          | (go_at_call 28; first | exact word_vq _ _ _ _ p _ _ HP d1 t1 e1 (by omega) | exact word_vq _ _ _ _ q _ _ HQ d2 t2 e2 (by omega))
          | (go_at_call 32; exact Calls.quiet_of_same (HT.out _ hd hu1 hu2)))
        go_wp2
        go_roundw
        case rel => exact ⟨k + 2, f, by omega, hfl, by go_num, by go_num, HST, q' + nq, by rw [HQ'.out]; exact World.drewN_drewN _ _ _⟩
        case measure => simp [intOf]; omega
      · have HD2 : Hid (d = S.fixB c l m) := by have h := HD.out; rw [List.drop_of_length_le (by rw [HN.out.1]; omega), fixB_nil] at h; exact h
        go_wp2
        go_ret2
        exact ⟨ret2 (by rw [HF.out, HD2.out]) (by rw [HE.out]), q', HQ'.out⟩
  · have hne : ((n1 : Int) != (n2 : Int)) = true := by rw [bne_iff_ne]; omega
    have HF : Hid (fbN c l m = 0) := by show _ = _; rw [fbN, if_pos HC.out, if_neg (by omega)]
    have HE : Hid (fbE c l m = 22) := by show _ = _; rw [fbE, if_pos HC.out, if_neg (by omega)]
    go_enter Try.func19, Try.ntmps19
    go_wp2_with fail
    refine (isWord_any c w).mono ?_
    rintro e w1 ⟨rfl, rfl⟩
    rw [HC.out]
    go_wp2
    go_ret2
    exact ⟨ret2 (by rw [HF.out]) (by rw [HE.out]), 0, rfl⟩
end Go.Proofs.Ytfnmidaiabjpbab
