/-
  The document's answers: folded, Sum, Check, Good, word, Fix, at, FixBytes.
-/
import Derived.Test.YtbbhnekdejamiaaSum5c
namespace Go.Proofs.Ytbbhnekdejamiaa
open Go.RowKit

theorem rfolded_any (n : Nat) (w : World) (h : n < 9223372036854775807) : Calls Try.prog 20 #[.int .i64 n] w fun e w' => e = .returned (.int .i64 ((S.fold n : Nat) : Int)) ∧ w = w' := by
  by_cases h0 : n = 0
  · subst h0
    go_enter Try.func20, Try.ntmps20
    go_wp2
    go_ret
    exact ⟨ret1 (by simp [S.fold]), rfl⟩
  · have h1 : ((n : Int) == 0) = false := by simp; omega
    go_enter Try.func20, Try.ntmps20
    go_wp2
    go_ret
    refine ⟨ret1 ?_, rfl⟩
    rw [S.fold, if_neg h0]
    omega

theorem wv_snoc (l : List Nat) (x : Nat) : S.wv false (l ++ [x]) = S.wv false l + (if l.length % 2 = 0 then 256 * x else x) := by
  rw [S.wv_append]
  by_cases h : l.length % 2 = 0
  · have : S.par false l.length = false := by simp [S.par, h]
    rw [this, if_pos h]
    simp [S.wv]
  · have : S.par false l.length = true := by simp [S.par, show l.length % 2 = 1 by omega]
    rw [this, if_neg h]
    simp [S.wv]

set_option maxHeartbeats 800000 in
theorem rsum_any (a : Option Addr) (n cap : Nat) (ps : List Part) (w : World) (hn : ps.length = n) (hps : Parts w a ps) (htot : (allB ps).length ≤ 1099511627776) (hn2 : n ≤ 9223372036854775807) :
    Calls Try.prog 8 #[.slice a n cap] w fun e w' => e = .returned (.int .i64 ((S.fold (S.wv false (allB ps)) : Nat) : Int)) ∧ w = w' := by
  subst hn
  obtain ⟨hcells, hok⟩ := hps
  have HT : Hid ((allB ps).length ≤ 1099511627776) := htot
  have h256 : ∀ x ∈ allB ps, x < 256 := allB_lt ps (fun p hp => (hok p hp).2.1)
  have H256 : Hid (∀ x ∈ allB ps, x < 256) := h256
  clear htot h256
  go_enter Try.func8, Try.ntmps8
  go_wp2
  go_loop [3, 4, 5] (fun at' t ix => ∃ k A T : Nat, k ≤ ps.length ∧ ix = .int .i64 k ∧ at' = .int .i64 A ∧ t = .int .i64 T ∧ A ≤ 1099511627776 ∧ T ≤ 71776119061217280 ∧ Hid (A = (allB (ps.take k)).length) ∧ Hid (T = S.wv false (allB (ps.take k)))) (fun _ _ ix => ps.length - (intOf ix).toNat)
  case atStart => exact ⟨0, 0, 0, Nat.zero_le _, rfl, rfl, rfl, by omega, by omega, by show _ = _; simp [allB], by show _ = _; simp [allB, S.wv]⟩
  case round =>
    obtain ⟨k, A, T, hk, rfl, rfl, rfl, hA, hT, HA, HTV⟩ := hrel
    by_cases hlt : k < ps.length
    · rcases hcells with hnil | ⟨b, off, rfl, hc⟩
      · rw [hnil] at hlt; simp at hlt
      have hcell := hc k hlt
      have hp := hok _ (List.getElem_mem hlt)
      have e1 := allB_take_succ ps k hlt
      have e2 := allB_take_le ps (k + 1)
      have hlt' : ∀ x ∈ allB (ps.take (k + 1)), x < 256 := fun x hx => H256.out x (by
          simp only [allB, List.mem_flatMap] at hx ⊢
          obtain ⟨p, hp, hx⟩ := hx
          exact ⟨p, List.mem_of_mem_take hp, hx⟩)
      obtain ⟨p, hpe⟩ : ∃ p, p = ps[k] := ⟨_, rfl⟩
      rw [← hpe] at hcell hp e1
      obtain ⟨pa, pc, l⟩ := p
      obtain ⟨hseg, hl256, hlc, hpc⟩ := hp
      simp only [Part.val] at hcell hseg hl256 hlc hpc e1
      obtain ⟨pre, hpre⟩ : ∃ pre, pre = allB (ps.take k) := ⟨_, rfl⟩
      rw [← hpre] at HA HTV e1
      rw [e1] at hlt' e2
      have HE1 : Hid (allB (ps.take (k + 1)) = pre ++ l) := e1
      have HLT : Hid (∀ x ∈ pre ++ l, x < 256) := hlt'
      have hpl : A + l.length ≤ 1099511627776 := by have := HT.out; have := HA.out; simp at e2; omega
      clear e1 e2 hpe hc hlt' hpre
      obtain ⟨N, hN⟩ : ∃ N, N = l.length := ⟨_, rfl⟩
      have HN : Hid (l.length = N) := hN.symm
      rw [← hN] at hcell hlc hpl
      clear hN
      go_wp2
      go_loop [3, 4, 6] (fun at' t ix => ∃ j T' : Nat, j ≤ N ∧ ix = .int .i64 j ∧ at' = .int .i64 ((A + j : Nat) : Int) ∧ t = .int .i64 T' ∧ T' ≤ 71776119061217280 ∧ Hid (T' = S.wv false (pre ++ l.take j))) (fun _ _ ix => N - (intOf ix).toNat)
      case atStart => exact ⟨0, T, Nat.zero_le _, rfl, rfl, rfl, hT, by show _ = _; rw [List.take_zero, List.append_nil]; exact HTV.out⟩
      case round =>
        obtain ⟨j, T', hj, rfl, rfl, rfl, hT', HT'⟩ := hrel
        by_cases hjl : j < N
        · obtain ⟨pb, poff, rfl, hpcell⟩ := seg_at hseg j (by rw [HN.out]; exact hjl)
          have c0 := hpcell j (by rw [HN.out]; exact hjl)
          have htk : l.take (j + 1) = l.take j ++ [l.getD j 0] := by
            rw [List.take_succ_eq_append_getElem (by rw [HN.out]; exact hjl)]
            simp [List.getD, show j < l.length by rw [HN.out]; exact hjl]
          have hstep := wv_snoc (pre ++ l.take j) (l.getD j 0)
          rw [List.append_assoc, ← htk, ← HT'.out] at hstep
          have hlen : (pre ++ l.take j).length = A + j := by rw [List.length_append, List.length_take, HN.out, ← HA.out]; omega
          rw [hlen] at hstep
          have hb := S.wv_le false (pre ++ l.take (j + 1)) (fun x hx => HLT.out x (by
            rcases List.mem_append.1 hx with h | h
            · exact List.mem_append_left _ h
            · exact List.mem_append_right _ (List.mem_of_mem_take h)))
          have hlen2 : (pre ++ l.take (j + 1)).length = A + j + 1 := by rw [List.length_append, List.length_take, HN.out, ← HA.out]; omega
          rw [hlen2] at hb
          have hx256 : l.getD j 0 < 256 := by
            simp only [List.getD, List.getElem?_eq_getElem (show j < l.length by rw [HN.out]; exact hjl), Option.getD_some]; exact hl256 _ (List.getElem_mem _)
          obtain ⟨x, hx⟩ : ∃ x, x = l.getD j 0 := ⟨_, rfl⟩
          rw [← hx] at c0 hstep hx256
          have HB : Hid _ := hb
          clear hx htk hlen hlen2 hpcell hb
          by_cases hpar : (A + j) % 2 = 0
          · rw [if_pos hpar] at hstep
            have HST : Hid (S.wv false (pre ++ l.take (j + 1)) = T' + 256 * x) := hstep
            have hT2 : T' + 256 * x ≤ 71776119061217280 := by have := HB.out; have := HST.out; omega
            have hp1 : (((A + j : Nat) : Int) % 2 == 0) = true := by simp; omega
            have hp2 : ((((A : Int) + (j : Int))) % 2 == 0) = true := by simp; omega
            clear hstep
            go_wp2
            go_round
            case rel => exact ⟨j + 1, T' + 256 * x, by omega, by go_num, by go_num, by go_num, hT2, HST.out.symm⟩
            case measure => simp [intOf]; omega
          · rw [if_neg hpar] at hstep
            have HST : Hid (S.wv false (pre ++ l.take (j + 1)) = T' + x) := hstep
            have hT2 : T' + x ≤ 71776119061217280 := by have := HB.out; have := HST.out; omega
            have hp1 : (((A + j : Nat) : Int) % 2 == 0) = false := by simp; omega
            have hp2 : ((((A : Int) + (j : Int))) % 2 == 0) = false := by simp; omega
            clear hstep
            go_wp2
            go_round
            case rel => exact ⟨j + 1, T' + x, by omega, by go_num, by go_num, by go_num, hT2, HST.out.symm⟩
            case measure => simp [intOf]; omega
        · obtain rfl : j = N := by omega
          have HT2 : Hid (T' = S.wv false (allB (ps.take (k + 1)))) := by have h := HT'.out; rw [List.take_of_length_le (by rw [HN.out]; exact Nat.le_refl _), ← HE1.out] at h; exact h
          go_wp2
          go_round
          case rel => exact ⟨k + 1, A + j, T', by omega, by go_num, rfl, rfl, hpl, hT', by show _ = _; rw [HE1.out, List.length_append, ← HA.out, HN.out], HT2⟩
          case measure => simp [intOf]; omega
    · obtain rfl : k = ps.length := by omega
      have HTV2 : Hid (T = S.wv false (allB ps)) := by have := HTV.out; rw [List.take_length] at this; exact this
      go_wp2_with fail
      refine (rfolded_any T _ (by omega)).mono ?_
      rintro e w' ⟨rfl, rfl⟩
      go_wp2
      go_ret
      exact ⟨ret1 (by rw [HTV2.out]), rfl⟩

theorem rcheck_any (a : Option Addr) (n cap : Nat) (ps : List Part) (w : World) (hn : ps.length = n) (hps : Parts w a ps) (htot : (allB ps).length ≤ 1099511627776) (hn2 : n ≤ 9223372036854775807) :
    Calls Try.prog 10 #[.slice a n cap] w fun e w' => e = .returned (.int .i64 ((65535 - S.fold (S.wv false (allB ps)) : Nat) : Int)) ∧ w = w' := by
  go_enter Try.func10, Try.ntmps10
  go_wp2_with fail
  refine (rsum_any a n cap ps w hn hps htot hn2).mono ?_
  rintro e w1 ⟨rfl, rfl⟩
  have h1 := S.fold_le (S.wv false (allB ps))
  obtain ⟨f, hf⟩ : ∃ f, f = S.fold (S.wv false (allB ps)) := ⟨_, rfl⟩
  rw [← hf] at h1 ⊢
  have HF : Hid (f = S.fold (S.wv false (allB ps))) := hf
  clear hf
  go_wp2
  go_ret
  exact ⟨ret1 (by rw [← HF.out]; omega), rfl⟩
theorem rgood_any (a : Option Addr) (n cap : Nat) (ps : List Part) (w : World) (hn : ps.length = n) (hps : Parts w a ps) (htot : (allB ps).length ≤ 1099511627776) (hn2 : n ≤ 9223372036854775807) :
    Calls Try.prog 12 #[.slice a n cap] w fun e w' => e = .returned (.bool (decide (S.fold (S.wv false (allB ps)) = 65535))) ∧ w = w' := by
  go_enter Try.func12, Try.ntmps12
  go_wp2_with fail
  refine (rsum_any a n cap ps w hn hps htot hn2).mono ?_
  rintro e w1 ⟨rfl, rfl⟩
  have h1 := S.fold_le (S.wv false (allB ps))
  obtain ⟨f, hf⟩ : ∃ f, f = S.fold (S.wv false (allB ps)) := ⟨_, rfl⟩
  rw [← hf] at h1 ⊢
  have HF : Hid (f = S.fold (S.wv false (allB ps))) := hf
  clear hf
  go_wp2
  go_ret
  refine ⟨congrArg (fun b => Ending.returned (.bool b)) ?_, rfl⟩
  rw [← HF.out]
  by_cases h : f = 65535
  · subst h; rfl
  · have h2 : ¬ (f : Int) = 65535 := by omega
    rw [decide_eq_false h]
    simpa using h2

theorem rword_any (x : Int) (w : World) : Calls Try.prog 23 #[.int .i64 x] w fun e w' => e = .returned (.bool (isW x)) ∧ w = w' := by
  by_cases h1 : 0 ≤ x
  · go_enter Try.func23, Try.ntmps23
    go_wp2
    go_ret
    exact ⟨congrArg (fun b => Ending.returned (.bool b)) (by simp [isW, h1]), rfl⟩
  · go_enter Try.func23, Try.ntmps23
    go_wp2
    go_ret
    exact ⟨congrArg (fun b => Ending.returned (.bool b)) (by simp [isW]; omega), rfl⟩
theorem rfix_any (c a b : Int) (w : World) :
    Calls Try.prog 24 #[.int .i64 c, .int .i64 a, .int .i64 b] w fun e w' => e = .returned (.tuple #[.int .i64 (fixN c a b), .int .i64 (fixE c a b)]) ∧ w' = w := by
  cases hc : isW c with
  | false =>
    go_enter Try.func24, Try.ntmps24
    go_wp2_with fail
    refine (rword_any c w).mono ?_
    rintro e w1 ⟨rfl, rfl⟩
    rw [hc]
    go_wp2
    go_ret2
    exact ⟨ret2 (by simp [fixN, hc]) (by simp [fixE, hc]), rfl⟩
  | true =>
  cases ha : isW a with
  | false =>
    go_enter Try.func24, Try.ntmps24
    go_wp2_with fail
    refine (rword_any c w).mono ?_
    rintro e w1 ⟨rfl, rfl⟩
    rw [hc]
    go_wp2_with fail
    refine (rword_any a w).mono ?_
    rintro e w1 ⟨rfl, rfl⟩
    rw [ha]
    go_wp2
    go_ret2
    exact ⟨ret2 (by simp [fixN, ha]) (by simp [fixE, ha]), rfl⟩
  | true =>
  cases hb : isW b with
  | false =>
    go_enter Try.func24, Try.ntmps24
    go_wp2_with fail
    refine (rword_any c w).mono ?_
    rintro e w1 ⟨rfl, rfl⟩
    rw [hc]
    go_wp2_with fail
    refine (rword_any a w).mono ?_
    rintro e w1 ⟨rfl, rfl⟩
    rw [ha]
    go_wp2_with fail
    refine (rword_any b w).mono ?_
    rintro e w1 ⟨rfl, rfl⟩
    rw [hb]
    go_wp2
    go_ret2
    exact ⟨ret2 (by simp [fixN, hb]) (by simp [fixE, hb]), rfl⟩
  | true =>
    have HF : Hid (fixN c a b = ((S.fix1 c.toNat a.toNat b.toNat : Nat) : Int)) := by simp [Hid, fixN, hc, ha, hb]
    have HE : Hid (fixE c a b = 0) := by simp [Hid, fixE, hc, ha, hb]
    have hc2 := hc
    have ha2 := ha
    have hb2 := hb
    obtain ⟨c, rfl, hc3⟩ := isW_true hc
    obtain ⟨a, rfl, ha3⟩ := isW_true ha
    obtain ⟨b, rfl, hb3⟩ := isW_true hb
    have HC : Hid (isW (c : Int) = true) := hc2
    have HA : Hid (isW (a : Int) = true) := ha2
    have HB : Hid (isW (b : Int) = true) := hb2
    clear hc2 ha2 hb2 hc ha hb
    go_enter Try.func24, Try.ntmps24
    go_wp2_with fail
    refine (rword_any c w).mono ?_
    rintro e w1 ⟨rfl, rfl⟩
    rw [HC.out]
    go_wp2_with fail
    refine (rword_any a w).mono ?_
    rintro e w1 ⟨rfl, rfl⟩
    rw [HA.out]
    go_wp2_with fail
    refine (rword_any b w).mono ?_
    rintro e w1 ⟨rfl, rfl⟩
    rw [HB.out]
    go_wp2_with fail
    have e : (65535 - (c : Int) + 65535 - (a : Int) + b) = ((65535 - c + (65535 - a) + b : Nat) : Int) := by omega
    rw [e]
    refine (rfolded_any _ w (by omega)).mono ?_
    rintro e w1 ⟨rfl, rfl⟩
    have h1 := S.fold_le (65535 - c + (65535 - a) + b)
    have HX : Hid (S.fix1 c a b = 65535 - S.fold (65535 - c + (65535 - a) + b)) := rfl
    obtain ⟨f, hf⟩ : ∃ f, f = S.fold (65535 - c + (65535 - a) + b) := ⟨_, rfl⟩
    rw [← hf] at h1 HX ⊢
    clear hf
    go_wp2
    go_ret2
    exact ⟨ret2 (by rw [HF.out]; simp only [Int.toNat_natCast]; rw [HX.out]; omega) (by rw [HE.out]), rfl⟩

set_option maxHeartbeats 400000 in
theorem rat_q (a : Option Addr) (n cap k v : Nat) (l : List Nat) (w : World) (hn : l.length = n) (hs : Seg .u8 w a (toI l)) (h256 : ∀ x ∈ l, x < 256) (hk : k < n) (hn2 : n ≤ 1099511627776) (hv : Hid (v = word1 (l.drop k))) :
    Calls Try.prog 25 #[.slice a n cap, .int .i64 k] w fun e w' => e = .returned (.int .i64 (v : Int)) ∧ ∃ m, w' = w.drewN m := by
  subst hn
  have hw : word1 (l.drop k) = 256 * l.getD k 0 + l.getD (k + 1) 0 := by unfold word1; simp [List.getD, List.getElem?_drop]
  rw [hw] at hv
  obtain ⟨b, off, rfl, hc⟩ := seg_at hs k hk
  have c0 := hc k hk
  have hx0 : l.getD k 0 < 256 := by simp only [List.getD, List.getElem?_eq_getElem hk, Option.getD_some]; exact h256 _ (List.getElem_mem _)
  by_cases h2 : k + 1 < l.length
  · have c1 := hc (k + 1) h2
    have hy0 : l.getD (k + 1) 0 < 256 := by simp only [List.getD, List.getElem?_eq_getElem h2, Option.getD_some]; exact h256 _ (List.getElem_mem _)
    obtain ⟨x, hx⟩ : ∃ x, x = l.getD k 0 := ⟨_, rfl⟩
    obtain ⟨y, hy⟩ : ∃ y, y = l.getD (k + 1) 0 := ⟨_, rfl⟩
    rw [← hx] at c0 hx0 hv
    rw [← hy] at c1 hy0 hv
    have c1' : w.cell? ⟨b, off + k + 1, none⟩ = some (.int .u8 (y : Int)) := c1
    clear hc hx hy hw
    go_enter Try.func25, Try.ntmps25
    go_wp2
    go_region
    go_wp2
    go_ret
    exact ⟨ret1 (by rw [hv.out]; omega), 1, rfl⟩
  · have e0 : l.getD (k + 1) 0 = 0 := by simp [List.getD, List.getElem?_eq_none (Nat.le_of_not_lt h2)]
    rw [e0] at hv
    obtain ⟨x, hx⟩ : ∃ x, x = l.getD k 0 := ⟨_, rfl⟩
    rw [← hx] at c0 hx0 hv
    clear hc hx e0 hw
    go_enter Try.func25, Try.ntmps25
    go_wp2
    go_ret
    exact ⟨ret1 (by rw [hv.out]; omega), 0, rfl⟩
end Go.Proofs.Ytbbhnekdejamiaa
