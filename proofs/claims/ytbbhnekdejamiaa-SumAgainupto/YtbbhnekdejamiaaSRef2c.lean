/-
  The document's FixBytes.
-/
import Derived.Test.YtbbhnekdejamiaaSRefc
namespace Go.Proofs.Ytbbhnekdejamiaa
open Go.RowKit

theorem rat_any (a : Option Addr) (n cap k v : Nat) (l : List Nat) (w : World) (hn : Hid (l.length = n)) (hs : Seg .u8 w a (toI l)) (h256 : ∀ x ∈ l, x < 256) (hk : k < n) (hn2 : n ≤ 1099511627776) (hv : Hid (v = word1 (l.drop k))) :
    Calls Try.prog 25 #[.slice a n cap, .int .i64 k] w fun e w' => e = .returned (.int .i64 (v : Int)) ∧ Below w.heap.size w w' :=
  (rat_q a n cap k v l w hn.out hs h256 hk hn2 hv).mono (fun e w' ⟨h, m, hm⟩ => ⟨h, by rw [hm]; exact below_drewN w m⟩)
theorem rfix_nat (c a b : Nat) (w : World) (hc : c ≤ 65535) (ha : a ≤ 65535) (hb : b ≤ 65535) :
    Calls Try.prog 24 #[.int .i64 c, .int .i64 a, .int .i64 b] w fun e w' => e = .returned (.tuple #[.int .i64 ((S.fix1 c a b : Nat) : Int), .int .i64 0]) ∧ w' = w := by
  have h : (isW (c : Int) && isW (a : Int) && isW (b : Int)) = true := by simp [isW]; omega
  have := rfix_any c a b w
  rw [fixN, fixE, if_pos h, if_pos h] at this
  simpa using this

set_option maxHeartbeats 800000 in
theorem rfixBytes_any (c : Int) (a b : Option Addr) (n1 n2 c1 c2 : Nat) (l m : List Nat) (w : World) (hn1 : l.length = n1) (hn2 : m.length = n2) (hp : Part.ok w ⟨a, c1, l⟩) (hq : Part.ok w ⟨b, c2, m⟩) (hsz : n1 ≤ 1099511627776) :
    Calls Try.prog 14 #[.int .i64 c, .slice a n1 c1, .slice b n2 c2] w fun e w' => e = .returned (.tuple #[.int .i64 (fbN c l m), .int .i64 (fbE c l m)]) ∧ Below w.heap.size w w' := by
  cases hc : isW c with
  | false =>
    go_enter Try.func14, Try.ntmps14
    go_wp2_with fail
    refine (rword_any c w).mono ?_
    rintro e w1 ⟨rfl, rfl⟩
    rw [hc]
    go_wp2
    go_ret2
    exact ⟨ret2 (by simp [fbN, hc]) (by simp [fbE, hc]), Below.refl _ _⟩
  | true =>
  have hc2 := hc
  obtain ⟨c, rfl, hc3⟩ := isW_true hc
  have HC : Hid (isW (c : Int) = true) := hc2
  clear hc2 hc
  by_cases hlen : n1 = n2
  · subst hlen
    have HN : Hid (l.length = n1 ∧ m.length = n1) := ⟨hn1, hn2⟩
    have HF : Hid (fbN c l m = ((S.fixB c l m : Nat) : Int)) := by show _ = _; rw [fbN, if_pos HC.out, if_pos (by omega)]; simp
    have HE : Hid (fbE c l m = 0) := by show _ = _; rw [fbE, if_pos HC.out, if_pos (by omega)]
    obtain ⟨hs1, h256, hlc1, hcm1⟩ := hp
    obtain ⟨hs2, h2562, hlc2, hcm2⟩ := hq
    simp only at hs1 h256 hlc1 hcm1 hs2 h2562 hlc2 hcm2
    have heq : ((n1 : Int) != (n1 : Int)) = false := by simp
    clear hn1 hn2
    go_enter Try.func14, Try.ntmps14
    go_wp2_with fail
    refine (rword_any c w).mono ?_
    rintro e w1 ⟨rfl, rfl⟩
    rw [HC.out]
    go_wp2
    go_loopw [0, 8] (fun v ix wr => ∃ k d : Nat, k ≤ n1 + 1 ∧ d ≤ 65535 ∧ ix = .int .i64 k ∧ v = .int .i64 d ∧ Hid (S.fixB d (l.drop k) (m.drop k) = S.fixB c l m) ∧ Below w.heap.size w wr) (fun _ ix _ => n1 + 1 - (intOf ix).toNat)
    case atStart => exact ⟨0, c, by omega, hc3, rfl, rfl, rfl, Below.refl _ _⟩
    case round =>
      obtain ⟨k, d, hk, hd, rfl, rfl, HD, hbel⟩ := hrel
      by_cases hlt : k < n1
      · have e1 : ∀ x ∈ l.drop k, x < 256 := fun x hx => h256 x (List.mem_of_mem_drop hx)
        have e2 : ∀ x ∈ m.drop k, x < 256 := fun x hx => h2562 x (List.mem_of_mem_drop hx)
        have hst := fixB_step d (l.drop k) (m.drop k) (by simp [HN.out.1, HN.out.2]) (by simp [HN.out.1]; omega)
        rw [List.drop_drop, List.drop_drop] at hst
        have hu1 := word1_le _ e1
        have hu2 := word1_le _ e2
        obtain ⟨p, hp⟩ : ∃ p, p = word1 (l.drop k) := ⟨_, rfl⟩
        obtain ⟨q, hq⟩ : ∃ q, q = word1 (m.drop k) := ⟨_, rfl⟩
        rw [← hp, ← hq] at hst
        rw [← hp] at hu1
        rw [← hq] at hu2
        have HP : Hid (p = word1 (l.drop k)) := hp
        have HQ : Hid (q = word1 (m.drop k)) := hq
        have HST : Hid (S.fixB (S.fix1 d p q) (l.drop (k + 2)) (m.drop (k + 2)) = S.fixB c l m) := by rw [hst] at HD; exact HD
        have hfl := S.fix1_le d p q
        have ht := rfix_nat d p q
        obtain ⟨f, hf⟩ : ∃ f, f = S.fix1 d p q := ⟨_, rfl⟩
        rw [← hf] at HST hfl
        simp only [← hf] at ht
        have HT : Hid _ := ht
        clear hp hq hst ht hf
        go_wp2_with fail
        refine (rat_any a n1 c1 k p l _ HN.out.1 (hs1.old hbel) h256 hlt hsz HP).mono ?_
        rintro e w2 ⟨rfl, hb2⟩
        have hb02 := hbel.trans (hb2.mono hbel.size)
        go_wp2_with fail
        refine (rat_any b n1 c2 k q m _ HN.out.2 (hs2.old hb02) h2562 hlt hsz HQ).mono ?_
        rintro e w3 ⟨rfl, hb3⟩
        have hb03 := hb02.trans (hb3.mono hb02.size)
        go_wp2_with fail
        refine (HT.out _ hd hu1 hu2).mono ?_
        rintro e w4 ⟨rfl, rfl⟩
        go_wp2
        go_roundw
        case rel => exact ⟨k + 2, f, by omega, hfl, by go_num, by go_num, HST, hb03⟩
        case measure => simp [intOf]; omega
      · have HD2 : Hid (d = S.fixB c l m) := by have h := HD.out; rw [List.drop_of_length_le (by rw [HN.out.1]; omega), fixB_nil] at h; exact h
        go_wp2
        go_ret2
        exact ⟨ret2 (by rw [HF.out, HD2.out]) (by rw [HE.out]), hbel⟩
  · have hne : ((n1 : Int) != (n2 : Int)) = true := by rw [bne_iff_ne]; omega
    have HF : Hid (fbN c l m = 0) := by show _ = _; rw [fbN, if_pos HC.out, if_neg (by omega)]
    have HE : Hid (fbE c l m = 22) := by show _ = _; rw [fbE, if_pos HC.out, if_neg (by omega)]
    go_enter Try.func14, Try.ntmps14
    go_wp2_with fail
    refine (rword_any c w).mono ?_
    rintro e w1 ⟨rfl, rfl⟩
    rw [HC.out]
    go_wp2
    go_ret2
    exact ⟨ret2 (by rw [HF.out]) (by rw [HE.out]), Below.refl _ _⟩
end Go.Proofs.Ytbbhnekdejamiaa
