/-
  sum.turn, isWord, Fix, FixBytes.
-/
import Derived.Test.YtbbhnekdejamiaaSum3
namespace Go.Proofs.Ytbbhnekdejamiaa
open Go.RowKit

theorem turn_any (c o n : Nat) (w : World) (hc : c ≤ 65535) (ho : o ≤ 65535) (hn : n ≤ 65535) :
    Calls Try.prog 22 #[.int .i64 c, .int .u64 o, .int .u64 n] w fun e w' => e = .returned (.int .i64 ((S.fix1 c o n : Nat) : Int)) ∧ w' = w := by
  go_enter Try.func22, Try.ntmps22
  go_wp2_with fail
  have e : (65535 - (c : Int) + 65535 - (o : Int) + n) = ((65535 - c + (65535 - o) + n : Nat) : Int) := by omega
  rw [e]
  refine (fold_any _ w (by omega)).mono ?_
  rintro e w1 ⟨rfl, rfl⟩
  have h1 := S.fold_le (65535 - c + (65535 - o) + n)
  have HF : Hid (S.fix1 c o n = 65535 - S.fold (65535 - c + (65535 - o) + n)) := rfl
  obtain ⟨f, hf⟩ : ∃ f, f = S.fold (65535 - c + (65535 - o) + n) := ⟨_, rfl⟩
  rw [← hf] at h1 HF ⊢
  clear hf
  go_wp2
  go_ret
  exact ⟨ret1 (by rw [HF.out]; omega), rfl⟩

def isW (x : Int) : Bool := decide (0 ≤ x ∧ x ≤ 65535)
theorem isWord_any (x : Int) (w : World) : Calls Try.prog 21 #[.int .i64 x] w fun e w' => e = .returned (.bool (isW x)) ∧ w = w' := by
  by_cases h1 : 0 ≤ x
  · go_enter Try.func21, Try.ntmps21
    go_wp2
    go_ret
    exact ⟨congrArg (fun b => Ending.returned (.bool b)) (by simp [isW, h1]), rfl⟩
  · go_enter Try.func21, Try.ntmps21
    go_wp2
    go_ret
    exact ⟨congrArg (fun b => Ending.returned (.bool b)) (by simp [isW]; omega), rfl⟩

/-- what Fix answers -/
def fixN (c a b : Int) : Int := if isW c && isW a && isW b then ((S.fix1 c.toNat a.toNat b.toNat : Nat) : Int) else 0
def fixE (c a b : Int) : Int := if isW c && isW a && isW b then 0 else 21
theorem isW_true {x : Int} (h : isW x = true) : ∃ n : Nat, x = n ∧ n ≤ 65535 := by
  simp [isW] at h
  exact ⟨x.toNat, by omega, by omega⟩
theorem fixB_step (c : Nat) (l m : List Nat) (h : l.length = m.length) (h0 : 0 < l.length) : S.fixB c l m = S.fixB (S.fix1 c (word1 l) (word1 m)) (l.drop 2) (m.drop 2) := by
  match l, m, h with
  | [a], [b], _ => simp [S.fixB, word1]
  | a :: a' :: l, b :: b' :: m, _ => simp [S.fixB, word1]
theorem fixB_nil (c : Nat) (m : List Nat) : S.fixB c [] m = c := by cases m <;> rfl
theorem word1_le (l : List Nat) (h : ∀ x ∈ l, x < 256) : word1 l ≤ 65535 := by
  have g : ∀ i, l.getD i 0 < 256 := by
    intro i
    by_cases hi : i < l.length
    · simp only [List.getD, List.getElem?_eq_getElem hi, Option.getD_some]; exact h _ (List.getElem_mem _)
    · simp [List.getD, List.getElem?_eq_none (Nat.le_of_not_lt hi)]
  have := g 0
  have := g 1
  unfold word1
  omega
theorem seg_rest2 {k : IntKind} {w : World} {a : Option Addr} {l : List Nat} (h : Seg k w a (toI l)) (n cp : Nat) (hn : n ≤ l.length) (hc : l.length ≤ cp) :
    Seg k w (if cp = n then a else a.map (fun x => x.add n)) (toI (l.drop n)) := by
  by_cases h0 : cp = n
  · exact .inl (by rw [List.drop_of_length_le (by omega)]; rfl)
  · rw [if_neg h0]
    exact seg_tail h n hn
theorem word_vq (a : Option Addr) (len cap : Nat) (l : List Nat) (v : Nat) (w : World) (k : Nat) (hv : Hid (v = word1 l)) (hl : Hid (l.length = len)) (hs : Seg .u8 w a (toI l)) (h256 : ∀ x ∈ l, x < 256) (h1 : 1 ≤ len) :
    Calls Try.prog 18 #[.slice a len cap] (w.drewN k) fun e w' => e = .returned (.int .u64 (v : Int)) ∧ ∃ m, w' = w.drewN m := by
  rw [hv.out]
  exact Calls.quiet_of (word_q a len cap l (w.drewN k) hl.out (hs.old (below_drewN _ _)) h256 h1)
/-- what FixBytes answers -/
def fbN (c : Int) (l m : List Nat) : Int := if isW c then (if l.length = m.length then ((S.fixB c.toNat l m : Nat) : Int) else 0) else 0
def fbE (c : Int) (l m : List Nat) : Int := if isW c then (if l.length = m.length then 0 else 22) else 21
set_option maxHeartbeats 800000 in
theorem fixBytes_any (c : Int) (a b : Option Addr) (n1 n2 c1 c2 : Nat) (l m : List Nat) (w : World) (hn1 : l.length = n1) (hn2 : m.length = n2) (hp : Part.ok w ⟨a, c1, l⟩) (hq : Part.ok w ⟨b, c2, m⟩) (hsz : n1 ≤ 1099511627776) :
    Calls Try.prog 13 #[.int .i64 c, .slice a n1 c1, .slice b n2 c2] w fun e w' => e = .returned (.tuple #[.int .i64 (fbN c l m), .int .i64 (fbE c l m)]) ∧ Below w.heap.size w w' := by
  cases hc : isW c with
  | false =>
    go_enter Try.func13, Try.ntmps13
    go_wp2_with fail
    refine (isWord_any c w).mono ?_
    rintro e w1 ⟨rfl, rfl⟩
    rw [hc]
    go_wp2
    go_ret2
    exact ⟨ret2 (by simp [fbN, hc]) (by simp [fbE, hc]), Below.refl _ _⟩
  | true =>
  have hc2 := hc
  obtain ⟨c, rfl, hc3⟩ := isW_true hc
  have HC : Hid (isW (c : Int) = true) := hc2
  clear hc2 hc
  by_cases hlen : n1 = n2
  · subst hlen
    have HN : Hid (l.length = n1 ∧ m.length = n1) := ⟨hn1, hn2⟩
    have HF : Hid (fbN c l m = ((S.fixB c l m : Nat) : Int)) := by show _ = _; rw [fbN, if_pos HC.out, if_pos (by omega)]; simp
    have HE : Hid (fbE c l m = 0) := by show _ = _; rw [fbE, if_pos HC.out, if_pos (by omega)]
    obtain ⟨hs1, h256, hlc1, hcm1⟩ := hp
    obtain ⟨hs2, h2562, hlc2, hcm2⟩ := hq
    simp only at hs1 h256 hlc1 hcm1 hs2 h2562 hlc2 hcm2
    rw [hn1] at hlc1
    rw [hn2] at hlc2
    have heq : ((n1 : Int) != (n1 : Int)) = false := by simp
    clear hn1 hn2
    go_enter Try.func13, Try.ntmps13
    go_wp2_with fail
    refine (isWord_any c w).mono ?_
    rintro e w1 ⟨rfl, rfl⟩
    rw [HC.out]
    go_wp2
    go_loopw [0, 8] (fun v ix wr => ∃ k d : Nat, k ≤ n1 + 1 ∧ d ≤ 65535 ∧ ix = .int .i64 k ∧ v = .int .i64 d ∧ Hid (S.fixB d (l.drop k) (m.drop k) = S.fixB c l m) ∧ Below w.heap.size w wr) (fun _ ix _ => n1 + 1 - (intOf ix).toNat)
    case atStart => exact ⟨0, c, by omega, hc3, rfl, rfl, rfl, Below.refl _ _⟩
    case round =>
      obtain ⟨k, d, hk, hd, rfl, rfl, HD, hbel⟩ := hrel
      by_cases hlt : k < n1
      · have t1 := seg_rest2 (hs1.old hbel) k c1 (by rw [HN.out.1]; omega) (by rw [HN.out.1]; exact hlc1)
        have t2 := seg_rest2 (hs2.old hbel) k c2 (by rw [HN.out.2]; omega) (by rw [HN.out.2]; exact hlc2)
        have d1 : Hid ((l.drop k).length = n1 - k) := by show _ = _; rw [List.length_drop, HN.out.1]
        have d2 : Hid ((m.drop k).length = n1 - k) := by show _ = _; rw [List.length_drop, HN.out.2]
        have e1 : ∀ x ∈ l.drop k, x < 256 := fun x hx => h256 x (List.mem_of_mem_drop hx)
        have e2 : ∀ x ∈ m.drop k, x < 256 := fun x hx => h2562 x (List.mem_of_mem_drop hx)
        have hst := fixB_step d (l.drop k) (m.drop k) (by rw [d1.out, d2.out]) (by rw [d1.out]; omega)
        rw [List.drop_drop, List.drop_drop] at hst
        have hu1 := word1_le _ e1
        have hu2 := word1_le _ e2
        obtain ⟨p, hp⟩ : ∃ p, p = word1 (l.drop k) := ⟨_, rfl⟩
        obtain ⟨q, hq⟩ : ∃ q, q = word1 (m.drop k) := ⟨_, rfl⟩
        rw [← hp, ← hq] at hst
        rw [← hp] at hu1
        rw [← hq] at hu2
        have HP : Hid (p = word1 (l.drop k)) := hp
        have HQ : Hid (q = word1 (m.drop k)) := hq
        have HST : Hid (S.fixB (S.fix1 d p q) (l.drop (k + 2)) (m.drop (k + 2)) = S.fixB c l m) := by rw [hst] at HD; exact HD
        have hfl := S.fix1_le d p q
        have ht := turn_any d p q
        obtain ⟨f, hf⟩ : ∃ f, f = S.fix1 d p q := ⟨_, rfl⟩
        rw [← hf] at HST hfl
        simp only [← hf] at ht
        have HT : Hid _ := ht
        clear hp hq hst ht hf
        have b0 : (0 : Int) ≤ (k : Int) := by omega
        have b1 : (k : Int) ≤ (n1 : Int) := by omega
        have b2 : (n1 : Int) ≤ (c1 : Int) := by omega
        have b3 : (n1 : Int) ≤ (c2 : Int) := by omega
        have b4 : k ≤ n1 := by omega
        go_wp2_with fail
        go_quiet (first
          | (go_at_call 18; first | exact word_vq _ _ _ _ p _ _ HP d1 t1 e1 (by omega) | exact word_vq _ _ _ _ q _ _ HQ d2 t2 e2 (by omega))
          | (go_at_call 22; exact Calls.quiet_of_same (HT.out _ hd hu1 hu2)))
        go_wp2
        go_roundw
        case rel => exact ⟨k + 2, f, by omega, hfl, by go_num, by go_num, HST, hbel.trans ((below_drewN _ _).mono hbel.size)⟩
        case measure => simp [intOf]; omega
      · have HD2 : Hid (d = S.fixB c l m) := by have h := HD.out; rw [List.drop_of_length_le (by rw [HN.out.1]; omega), fixB_nil] at h; exact h
        go_wp2
        go_ret2
        exact ⟨ret2 (by rw [HF.out, HD2.out]) (by rw [HE.out]), hbel⟩
  · have hne : ((n1 : Int) != (n2 : Int)) = true := by rw [bne_iff_ne]; omega
    have HF : Hid (fbN c l m = 0) := by show _ = _; rw [fbN, if_pos HC.out, if_neg (by omega)]
    have HE : Hid (fbE c l m = 22) := by show _ = _; rw [fbE, if_pos HC.out, if_neg (by omega)]
    go_enter Try.func13, Try.ntmps13
    go_wp2_with fail
    refine (isWord_any c w).mono ?_
    rintro e w1 ⟨rfl, rfl⟩
    rw [HC.out]
    go_wp2
    go_ret2
    exact ⟨ret2 (by rw [HF.out]) (by rw [HE.out]), Below.refl _ _⟩
end Go.Proofs.Ytbbhnekdejamiaa
