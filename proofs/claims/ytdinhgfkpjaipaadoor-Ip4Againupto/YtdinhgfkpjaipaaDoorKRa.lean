/-
  R6Sum R6Math R6Fn1 R6Fn2 R6Opt R6Wide R6Put R6Chk, one behind the other.
-/
import Derived.Test.YtdinhgfkpjaipaaDoorI4Sum
import Derived.Test.YtdinhgfkpjaipaaDoorI4Hop
import Derived.Test.YtdinhgfkpjaipaaDoorI4Check
import Derived.Test.YtdinhgfkpjaipaaDoorI4Har3
import Derived.Test.YtdinhgfkpjaipaaDoorI4Clone
import Derived.Test.YtdinhgfkpjaipaaDoorI4Win
namespace Go.Proofs.YtdinhgfkpjaipaaDoor
open Go.RowKit

theorem rfolded_any (n : Nat) (w : World) (h : n < 9223372036854775807) : Calls Tryd.prog 111 #[.int .i64 n] w fun e w' => e = .returned (.int .i64 ((S.fold n : Nat) : Int)) ∧ w = w' := by
  by_cases h0 : n = 0
  · subst h0
    go_enter Tryd.func111, Tryd.ntmps111
    go_wp2
    go_ret
    exact ⟨ret1 (by simp [S.fold]), rfl⟩
  · have h1 : ((n : Int) == 0) = false := by simp; omega
    go_enter Tryd.func111, Tryd.ntmps111
    go_wp2
    go_ret
    refine ⟨ret1 ?_, rfl⟩
    rw [S.fold, if_neg h0]
    omega

theorem wv_snoc (l : List Nat) (x : Nat) : S.wv false (l ++ [x]) = S.wv false l + (if l.length % 2 = 0 then 256 * x else x) := by
  rw [S.wv_append]
  by_cases h : l.length % 2 = 0
  · have : S.par false l.length = false := by simp [S.par, h]
    rw [this, if_pos h]
    simp [S.wv]
  · have : S.par false l.length = true := by simp [S.par, show l.length % 2 = 1 by omega]
    rw [this, if_neg h]
    simp [S.wv]

set_option maxHeartbeats 800000 in
theorem rsum_any (a : Option Addr) (n cap : Nat) (ps : List Part) (w : World) (hn : ps.length = n) (hps : Parts w a ps) (htot : (allB ps).length ≤ 1099511627776) (hn2 : n ≤ 9223372036854775807) :
    Calls Tryd.prog 99 #[.slice a n cap] w fun e w' => e = .returned (.int .i64 ((S.fold (S.wv false (allB ps)) : Nat) : Int)) ∧ w = w' := by
  subst hn
  obtain ⟨hcells, hok⟩ := hps
  have HT : Hid ((allB ps).length ≤ 1099511627776) := htot
  have h256 : ∀ x ∈ allB ps, x < 256 := allB_lt ps (fun p hp => (hok p hp).2.1)
  have H256 : Hid (∀ x ∈ allB ps, x < 256) := h256
  clear htot h256
  go_enter Tryd.func99, Tryd.ntmps99
  go_wp2
  go_loop [3, 4, 5] (fun at' t ix => ∃ k A T : Nat, k ≤ ps.length ∧ ix = .int .i64 k ∧ at' = .int .i64 A ∧ t = .int .i64 T ∧ A ≤ 1099511627776 ∧ T ≤ 71776119061217280 ∧ Hid (A = (allB (ps.take k)).length) ∧ Hid (T = S.wv false (allB (ps.take k)))) (fun _ _ ix => ps.length - (intOf ix).toNat)
  case atStart => exact ⟨0, 0, 0, Nat.zero_le _, rfl, rfl, rfl, by omega, by omega, by show _ = _; simp [allB], by show _ = _; simp [allB, S.wv]⟩
  case round =>
    obtain ⟨k, A, T, hk, rfl, rfl, rfl, hA, hT, HA, HTV⟩ := hrel
    by_cases hlt : k < ps.length
    · rcases hcells with hnil | ⟨b, off, rfl, hc⟩
      · rw [hnil] at hlt; simp at hlt
      have hcell := hc k hlt
      have hp := hok _ (List.getElem_mem hlt)
      have e1 := allB_take_succ ps k hlt
      have e2 := allB_take_le ps (k + 1)
      have hlt' : ∀ x ∈ allB (ps.take (k + 1)), x < 256 := fun x hx => H256.out x (by
          simp only [allB, List.mem_flatMap] at hx ⊢
          obtain ⟨p, hp, hx⟩ := hx
          exact ⟨p, List.mem_of_mem_take hp, hx⟩)
      obtain ⟨p, hpe⟩ : ∃ p, p = ps[k] := ⟨_, rfl⟩
      rw [← hpe] at hcell hp e1
      obtain ⟨pa, pc, l⟩ := p
      obtain ⟨hseg, hl256, hlc, hpc⟩ := hp
      simp only [Part.val] at hcell hseg hl256 hlc hpc e1
      obtain ⟨pre, hpre⟩ : ∃ pre, pre = allB (ps.take k) := ⟨_, rfl⟩
      rw [← hpre] at HA HTV e1
      rw [e1] at hlt' e2
      have HE1 : Hid (allB (ps.take (k + 1)) = pre ++ l) := e1
      have HLT : Hid (∀ x ∈ pre ++ l, x < 256) := hlt'
      have hpl : A + l.length ≤ 1099511627776 := by have := HT.out; have := HA.out; simp at e2; omega
      clear e1 e2 hpe hc hlt' hpre
      obtain ⟨N, hN⟩ : ∃ N, N = l.length := ⟨_, rfl⟩
      have HN : Hid (l.length = N) := hN.symm
      rw [← hN] at hcell hlc hpl
      clear hN
      go_wp2
      go_loop [3, 4, 6] (fun at' t ix => ∃ j T' : Nat, j ≤ N ∧ ix = .int .i64 j ∧ at' = .int .i64 ((A + j : Nat) : Int) ∧ t = .int .i64 T' ∧ T' ≤ 71776119061217280 ∧ Hid (T' = S.wv false (pre ++ l.take j))) (fun _ _ ix => N - (intOf ix).toNat)
      case atStart => exact ⟨0, T, Nat.zero_le _, rfl, rfl, rfl, hT, by show _ = _; rw [List.take_zero, List.append_nil]; exact HTV.out⟩
      case round =>
        obtain ⟨j, T', hj, rfl, rfl, rfl, hT', HT'⟩ := hrel
        by_cases hjl : j < N
        · obtain ⟨pb, poff, rfl, hpcell⟩ := seg_at hseg j (by rw [HN.out]; exact hjl)
          have c0 := hpcell j (by rw [HN.out]; exact hjl)
          have htk : l.take (j + 1) = l.take j ++ [l.getD j 0] := by
            rw [List.take_succ_eq_append_getElem (by rw [HN.out]; exact hjl)]
            simp [List.getD, show j < l.length by rw [HN.out]; exact hjl]
          have hstep := wv_snoc (pre ++ l.take j) (l.getD j 0)
          rw [List.append_assoc, ← htk, ← HT'.out] at hstep
          have hlen : (pre ++ l.take j).length = A + j := by rw [List.length_append, List.length_take, HN.out, ← HA.out]; omega
          rw [hlen] at hstep
          have hb := S.wv_le false (pre ++ l.take (j + 1)) (fun x hx => HLT.out x (by
            rcases List.mem_append.1 hx with h | h
            · exact List.mem_append_left _ h
            · exact List.mem_append_right _ (List.mem_of_mem_take h)))
          have hlen2 : (pre ++ l.take (j + 1)).length = A + j + 1 := by rw [List.length_append, List.length_take, HN.out, ← HA.out]; omega
          rw [hlen2] at hb
          have hx256 : l.getD j 0 < 256 := by
            simp only [List.getD, List.getElem?_eq_getElem (show j < l.length by rw [HN.out]; exact hjl), Option.getD_some]; exact hl256 _ (List.getElem_mem _)
          obtain ⟨x, hx⟩ : ∃ x, x = l.getD j 0 := ⟨_, rfl⟩
          rw [← hx] at c0 hstep hx256
          have HB : Hid _ := hb
          clear hx htk hlen hlen2 hpcell hb
          by_cases hpar : (A + j) % 2 = 0
          · rw [if_pos hpar] at hstep
            have HST : Hid (S.wv false (pre ++ l.take (j + 1)) = T' + 256 * x) := hstep
            have hT2 : T' + 256 * x ≤ 71776119061217280 := by have := HB.out; have := HST.out; omega
            have hp1 : (((A + j : Nat) : Int) % 2 == 0) = true := by simp; omega
            have hp2 : ((((A : Int) + (j : Int))) % 2 == 0) = true := by simp; omega
            clear hstep
            go_wp2
            go_round
            case rel => exact ⟨j + 1, T' + 256 * x, by omega, by go_num, by go_num, by go_num, hT2, HST.out.symm⟩
            case measure => simp [intOf]; omega
          · rw [if_neg hpar] at hstep
            have HST : Hid (S.wv false (pre ++ l.take (j + 1)) = T' + x) := hstep
            have hT2 : T' + x ≤ 71776119061217280 := by have := HB.out; have := HST.out; omega
            have hp1 : (((A + j : Nat) : Int) % 2 == 0) = false := by simp; omega
            have hp2 : ((((A : Int) + (j : Int))) % 2 == 0) = false := by simp; omega
            clear hstep
            go_wp2
            go_round
            case rel => exact ⟨j + 1, T' + x, by omega, by go_num, by go_num, by go_num, hT2, HST.out.symm⟩
            case measure => simp [intOf]; omega
        · obtain rfl : j = N := by omega
          have HT2 : Hid (T' = S.wv false (allB (ps.take (k + 1)))) := by have h := HT'.out; rw [List.take_of_length_le (by rw [HN.out]; exact Nat.le_refl _), ← HE1.out] at h; exact h
          go_wp2
          go_round
          case rel => exact ⟨k + 1, A + j, T', by omega, by go_num, rfl, rfl, hpl, hT', by show _ = _; rw [HE1.out, List.length_append, ← HA.out, HN.out], HT2⟩
          case measure => simp [intOf]; omega
    · obtain rfl : k = ps.length := by omega
      have HTV2 : Hid (T = S.wv false (allB ps)) := by have := HTV.out; rw [List.take_length] at this; exact this
      go_wp2_with fail
      refine (rfolded_any T _ (by omega)).mono ?_
      rintro e w' ⟨rfl, rfl⟩
      go_wp2
      go_ret
      exact ⟨ret1 (by rw [HTV2.out]), rfl⟩

theorem rcheck_any (a : Option Addr) (n cap : Nat) (ps : List Part) (w : World) (hn : ps.length = n) (hps : Parts w a ps) (htot : (allB ps).length ≤ 1099511627776) (hn2 : n ≤ 9223372036854775807) :
    Calls Tryd.prog 75 #[.slice a n cap] w fun e w' => e = .returned (.int .i64 ((65535 - S.fold (S.wv false (allB ps)) : Nat) : Int)) ∧ w = w' := by
  go_enter Tryd.func75, Tryd.ntmps75
  go_wp2_with fail
  refine (rsum_any a n cap ps w hn hps htot hn2).mono ?_
  rintro e w1 ⟨rfl, rfl⟩
  have h1 := S.fold_le (S.wv false (allB ps))
  obtain ⟨f, hf⟩ : ∃ f, f = S.fold (S.wv false (allB ps)) := ⟨_, rfl⟩
  rw [← hf] at h1 ⊢
  have HF : Hid (f = S.fold (S.wv false (allB ps))) := hf
  clear hf
  go_wp2
  go_ret
  exact ⟨ret1 (by rw [← HF.out]; omega), rfl⟩
theorem rgood_any (a : Option Addr) (n cap : Nat) (ps : List Part) (w : World) (hn : ps.length = n) (hps : Parts w a ps) (htot : (allB ps).length ≤ 1099511627776) (hn2 : n ≤ 9223372036854775807) :
    Calls Tryd.prog 69 #[.slice a n cap] w fun e w' => e = .returned (.bool (decide (S.fold (S.wv false (allB ps)) = 65535))) ∧ w = w' := by
  go_enter Tryd.func69, Tryd.ntmps69
  go_wp2_with fail
  refine (rsum_any a n cap ps w hn hps htot hn2).mono ?_
  rintro e w1 ⟨rfl, rfl⟩
  have h1 := S.fold_le (S.wv false (allB ps))
  obtain ⟨f, hf⟩ : ∃ f, f = S.fold (S.wv false (allB ps)) := ⟨_, rfl⟩
  rw [← hf] at h1 ⊢
  have HF : Hid (f = S.fold (S.wv false (allB ps))) := hf
  clear hf
  go_wp2
  go_ret
  refine ⟨congrArg (fun b => Ending.returned (.bool b)) ?_, rfl⟩
  rw [← HF.out]
  by_cases h : f = 65535
  · subst h; rfl
  · have h2 : ¬ (f : Int) = 65535 := by omega
    rw [decide_eq_false h]
    simpa using h2


section
variable (w : World) (B : Nat) (a1 a2 : Option Addr) (n1 n2 c1 c2 : Nat) (l1 l2 : List Nat)
theorem rgood_one (hB : B = w.heap.size) (hl1 : l1.length = n1) (h1 : Part.ok w ⟨a1, c1, l1⟩) (hs : n1 ≤ 1099511627776) :
    Calls Tryd.prog 69 #[.slice (some ⟨B, 0, none⟩) 1 1] (w.alloc (.cells #[.slice a1 n1 c1] 26)) fun e w' => e = .returned (.bool (decide (S.fold (S.wv false l1) = 65535))) ∧ Below w.heap.size w w' := by
  subst hB hl1
  have := rgood_any (some ⟨w.heap.size, 0, none⟩) 1 1 [⟨a1, c1, l1⟩] _ rfl (parts_new w [⟨a1, c1, l1⟩] 26 (by intro p hp; simp at hp; subst hp; exact h1)) (by simp [allB]; omega) (by omega)
  simp only [allB, List.flatMap_cons, List.flatMap_nil, List.append_nil] at this
  exact this.mono (fun e w' h => ⟨h.1, by rw [← h.2]; exact (Below.refl _ _).alloc (Nat.le_refl _) _⟩)
theorem rcheck_two (hB : B = w.heap.size) (hl1 : l1.length = n1) (hl2 : l2.length = n2) (h1 : Part.ok w ⟨a1, c1, l1⟩) (h2 : Part.ok w ⟨a2, c2, l2⟩) (hs : n1 + n2 ≤ 1099511627776) :
    Calls Tryd.prog 75 #[.slice (some ⟨B, 0, none⟩) 2 2] (w.alloc (.cells #[.slice a1 n1 c1, .slice a2 n2 c2] 26)) fun e w' => e = .returned (.int .i64 ((65535 - S.fold (S.wv false (l1 ++ l2)) : Nat) : Int)) ∧ Below w.heap.size w w' := by
  subst hB hl1 hl2
  have := rcheck_any (some ⟨w.heap.size, 0, none⟩) 2 2 [⟨a1, c1, l1⟩, ⟨a2, c2, l2⟩] _ rfl (parts_new w [⟨a1, c1, l1⟩, ⟨a2, c2, l2⟩] 26 (by intro p hp; simp at hp; rcases hp with rfl | rfl; exact h1; exact h2)) (by simp [allB]; omega) (by omega)
  simp only [allB, List.flatMap_cons, List.flatMap_nil, List.append_nil] at this
  exact this.mono (fun e w' h => ⟨h.1, by rw [← h.2]; exact (Below.refl _ _).alloc (Nat.le_refl _) _⟩)
end
end Go.Proofs.YtdinhgfkpjaipaaDoor
namespace Go.Proofs.YtdinhgfkpjaipaaDoor.I4

theorem fold_one (n : Nat) (h : n ≠ 0) : 1 ≤ S.fold n := by
  unfold S.fold
  rw [if_neg h]
  omega
/-- the sum reckoned anew, of what lies beside it -/
def hopX (b : List Nat) : Nat := 65535 - S.fold (S.wv false (((b.set 8 (b.getD 8 0 - 1)).take 10) ++ (((b.set 8 (b.getD 8 0 - 1)).take (hdL b)).drop 12)))
theorem putW_split (c : List Nat) (x : Nat) (h : 12 ≤ c.length) : S.putW c 10 x = c.take 10 ++ ([x / 256, x % 256] ++ c.drop 12) := by
  apply List.ext_getElem?
  intro i
  by_cases h1 : i < 10
  · rw [List.getElem?_append_left (by simp; omega)]
    simp only [S.putW, List.getElem?_set, List.getElem?_take]
    rw [if_neg (by omega), if_neg (by omega), if_pos h1]
  · rw [List.getElem?_append_right (by simp; omega)]
    have hl : (c.take 10).length = 10 := by simp; omega
    rw [hl]
    by_cases h2 : i = 10
    · subst h2
      simp [S.putW, List.getElem?_set]
      omega
    · by_cases h3 : i = 11
      · subst h3
        simp [S.putW, List.getElem?_set]
        omega
      · rw [List.getElem?_append_right (by simp; omega), List.getElem?_drop]
        simp only [List.length_cons, List.length_nil, S.putW, List.getElem?_set]
        rw [if_neg (by omega), if_neg (by omega)]
        congr 1
        omega
theorem hopX_eq {b : List Nat} (t : Taken b) (h8 : 2 ≤ b.getD 8 0) (h256 : ∀ x ∈ b, x < 256) : hopX b = hopF b := by
  have hd := t.hd
  have h1 := t.hd2
  have h2 := t.tl
  have h3 := t.ver
  obtain ⟨n, hn⟩ : ∃ n, n = hdL b := ⟨_, rfl⟩
  rw [← hn] at hd h1
  have hg := hop_good (b.take n) (by simp; omega) (by rw [getD_take _ _ _ (by omega)]; omega) (fun x hx => h256 x (List.mem_of_mem_take hx)) (by rw [getD_take _ _ _ (by omega)]; omega) (by rw [hn]; exact t.good)
  have hF : hopF (b.take n) = hopF b := hopF_take b n (by omega)
  have h65 := hopF_le b
  obtain ⟨c, hc⟩ : ∃ c, c = b.set 8 (b.getD 8 0 - 1) := ⟨_, rfl⟩
  have hcl : c.length = b.length := by rw [hc]; simp
  have hct : (b.take n).set 8 ((b.take n).getD 8 0 - 1) = c.take n := by rw [hc, getD_take _ _ _ (by omega), List.take_set]
  have hs : hop (b.take n) = c.take 10 ++ ([hopF b / 256, hopF b % 256] ++ (c.take n).drop 12) := by
    unfold hop
    rw [hct, hF, putW_split _ _ (by simp; omega), List.take_take, Nat.min_eq_left (by omega)]
  have hX : hopX b = 65535 - S.fold (S.wv false (c.take 10 ++ (c.take n).drop 12)) := by unfold hopX; rw [hn, hc]
  have ht10 : (c.take 10).length = 10 := by simp; omega
  rw [hs, wv_app_even _ _ (by rw [ht10]), wv_app_even [hopF b / 256, hopF b % 256] _ (by simp)] at hg
  rw [hX, wv_app_even _ _ (by rw [ht10])]
  have hw : S.wv false [hopF b / 256, hopF b % 256] = hopF b := by simp [S.wv]; omega
  rw [hw] at hg
  have hnz : S.wv false (c.take 10) ≠ 0 := by
    intro e
    have := S.wv_zero false (c.take 10) e ((c.take 10)[0]'(by omega)) (List.getElem_mem _)
    rw [getElem_getD, getD_take _ _ _ (by omega), hc] at this
    have e0 : (b.set 8 (b.getD 8 0 - 1)).getD 0 0 = b.getD 0 0 := by simp [List.getD]
    rw [e0] at this
    omega
  have hF1 : hopF b ≤ 65534 := by
    have hf : hopF b = 65535 - S.fold (65535 - (256 * b.getD 10 0 + b.getD 11 0) + (65535 - (256 * b.getD 8 0 + b.getD 9 0)) + (256 * (b.getD 8 0 - 1) + b.getD 9 0)) := rfl
    have g8 := getD_lt b h256 8
    have g9 := getD_lt b h256 9
    have := fold_one (65535 - (256 * b.getD 10 0 + b.getD 11 0) + (65535 - (256 * b.getD 8 0 + b.getD 9 0)) + (256 * (b.getD 8 0 - 1) + b.getD 9 0)) (by omega)
    omega
  generalize S.wv false (c.take 10) = A at hg hnz ⊢
  generalize S.wv false ((c.take n).drop 12) = D at hg ⊢
  have f1 := fold_one (A + D) (by omega)
  have f2 := S.fold_le (A + D)
  have f3 := S.fold_mod (A + D)
  rw [S.fold_full] at hg
  obtain ⟨_, hg⟩ := hg
  generalize S.fold (A + D) = E at f1 f2 f3 ⊢
  generalize hopF b = F at hg hF1 ⊢
  omega
/-- the header ahead of its sum, and behind it -/
def hA (h : H4) (hd tl : Nat) : List Nat := [64 + hd / 4, h.tos.toNat, tl / 256, tl % 256, h.id.toNat / 256, h.id.toNat % 256, wordOf h / 256, wordOf h % 256, h.ttl.toNat, h.proto.toNat]
def hZ (h : H4) : List Nat := [h.sx 0, h.sx 1, h.sx 2, h.sx 3, h.dx 0, h.dx 1, h.dx 2, h.dx 3]
theorem hlist_split (h : H4) (hd tl s : Nat) : hlist h hd tl s = hA h hd tl ++ ([s / 256, s % 256] ++ hZ h) := rfl
theorem serSum_eq (h : H4) : serSum h = 65535 - S.fold (S.wv false (hA h (serHd h) (serTl h) ++ (hZ h ++ putO h.os))) := by
  have e : S.wv false (hlist h (serHd h) (serTl h) 0 ++ putO h.os) = S.wv false (hA h (serHd h) (serTl h) ++ (hZ h ++ putO h.os)) := by
    have hl : (hA h (serHd h) (serTl h)).length % 2 = 0 := by simp [hA]
    rw [hlist_split, List.append_assoc, List.append_assoc, wv_app_even _ _ hl, wv_app_even _ (hZ h ++ putO h.os) hl, wv_app_even [0 / 256, 0 % 256] _ (by simp)]
    have z : S.wv false [0 / 256, 0 % 256] = 0 := by decide
    rw [z, Nat.zero_add]
  unfold serSum
  rw [e]
theorem ser_split (h : H4) : ser h = hA h (serHd h) (serTl h) ++ ([serSum h / 256, serSum h % 256] ++ ((hZ h ++ putO h.os) ++ h.data)) := by
  unfold ser
  rw [hlist_split]
  simp only [List.append_assoc]
end Go.Proofs.YtdinhgfkpjaipaaDoor.I4
namespace Go.Proofs.YtdinhgfkpjaipaaDoor
open Go.RowKit
open I4 (H4)

theorem out_any (n hi : Int) (w : World) : Calls Tryd.prog 109 #[.int .i64 n, .int .i64 hi] w fun e w' => e = .returned (.bool (!I4.within n hi)) ∧ w = w' := by
  by_cases h1 : n < 0
  · go_enter Tryd.func109, Tryd.ntmps109
    go_wp2
    go_ret
    refine ⟨congrArg (fun b => Ending.returned (.bool b)) ?_, rfl⟩
    simp [I4.within]
    omega
  · go_enter Tryd.func109, Tryd.ntmps109
    go_wp2
    go_ret
    refine ⟨congrArg (fun b => Ending.returned (.bool b)) ?_, rfl⟩
    rw [Bool.eq_iff_iff]
    simp [I4.within]
    omega
set_option maxHeartbeats 800000 in
set_option maxRecDepth 100000 in
theorem two_any (a : Option Addr) (n cap i : Nat) (l : List Nat) (w : World) (hn : l.length = n) (hs : Seg .u8 w a (toI l)) (h256 : ∀ x ∈ l, x < 256) (hi : i + 1 < n) (hm : n ≤ 1048576) :
    Calls Tryd.prog 68 #[.slice a n cap, .int .i64 i] w fun e w' => e = .returned (.int .i64 ((256 * l.getD i 0 + l.getD (i + 1) 0 : Nat) : Int)) ∧ Below w.heap.size w w' := by
  obtain ⟨b, off, rfl, hc⟩ := seg_at hs i (by omega)
  have c0 := hc i (by omega)
  have c1 := hc (i + 1) (by omega)
  have g0 := I4.getD_lt l h256 i
  have g1 := I4.getD_lt l h256 (i + 1)
  obtain ⟨x, hx⟩ : ∃ x, x = l.getD i 0 := ⟨_, rfl⟩
  obtain ⟨y, hy⟩ : ∃ y, y = l.getD (i + 1) 0 := ⟨_, rfl⟩
  rw [← hx] at c0 g0 ⊢
  rw [← hy] at c1 g1 ⊢
  have w1 : IntKind.i64.wrap ((i : Int) + 1) = (i : Int) + 1 := by rw [IntKind.wrap_i64]; omega
  have k0 : (0 : Int) ≤ (i : Int) := by omega
  have k1 : (i : Int) < (n : Int) := by omega
  have k2 : ((i : Int)).toNat = i := by omega
  have k3 : (0 : Int) ≤ (i : Int) + 1 := by omega
  have k4 : (i : Int) + 1 < (n : Int) := by omega
  have k5 : ((i : Int) + 1).toNat = i + 1 := by omega
  clear hx hy hn hs hc h256
  go_enter Tryd.func68, Tryd.ntmps68
  go_wp2
  try go_region
  go_wp2
  go_ret
  exact ⟨ret1 (by omega), (Below.refl _ _).drew⟩
set_option maxRecDepth 100000 in
theorem frag_any (mf : Bool) (off : Int) (n : Nat) (w : World) (h0 : 0 ≤ off) (h1 : off ≤ 65528) (hn : n ≤ 1099511627776) :
    Calls Tryd.prog 71 #[.bool mf, .int .i64 off, .int .i64 n] w fun e w' => e = .returned (.bool (!I4.fragOk mf off n)) ∧ w = w' := by
  have hw : IntKind.i64.wrap (off + (n : Int)) = off + (n : Int) := by rw [IntKind.wrap_i64]; omega
  have HW : Hid _ := hw
  have key : ∀ b, b = (mf && (decide (n = 0) || decide (n % 8 ≠ 0)) || !decide (off + (n : Int) ≤ 65515)) → b = !I4.fragOk mf off n := by
    intro b hb
    rw [hb]
    unfold I4.fragOk
    rw [Bool.not_and, Bool.not_not]
  have HG : Hid (decide (65515 < off + (n : Int)) = !decide (off + (n : Int) ≤ 65515)) := by
    show _ = _
    by_cases h : off + (n : Int) ≤ 65515
    · rw [decide_eq_true h, decide_eq_false (by omega)]; rfl
    · rw [decide_eq_false h, decide_eq_true (by omega)]; rfl
  have KEY : Hid _ := key
  clear key
  cases mf with
  | false =>
    go_enter Tryd.func71, Tryd.ntmps71
    go_wp2
    go_ret
    refine ⟨congrArg (fun b => Ending.returned (.bool b)) (KEY.out _ ?_), rfl⟩
    rw [Bool.false_and, Bool.false_or, ← HG.out]
  | true =>
    by_cases hn0 : n = 0
    · subst hn0
      go_enter Tryd.func71, Tryd.ntmps71
      go_wp2
      go_ret
      exact ⟨congrArg (fun b => Ending.returned (.bool b)) (KEY.out _ rfl), rfl⟩
    · have z0 : ((n : Int) == 0) = false := by simp; omega
      have HN0 : Hid (decide (n = 0) = false) := decide_eq_false hn0
      by_cases hn8 : n % 8 = 0
      · have z1 : ((n : Int) % 8 != 0) = false := by simp; omega
        have HN8 : Hid (decide (n % 8 ≠ 0) = false) := decide_eq_false (by omega)
        clear hn0 hn8
        go_enter Tryd.func71, Tryd.ntmps71
        go_wp2
        go_ret
        refine ⟨congrArg (fun b => Ending.returned (.bool b)) (KEY.out _ ?_), rfl⟩
        rw [HN0.out, HN8.out, Bool.or_false, Bool.true_and, Bool.false_or, ← HG.out]
      · have z1 : ((n : Int) % 8 != 0) = true := by simp; omega
        have HN8 : Hid (decide (n % 8 ≠ 0) = true) := decide_eq_true hn8
        clear hn0 hn8
        go_enter Tryd.func71, Tryd.ntmps71
        go_wp2
        go_ret
        refine ⟨congrArg (fun b => Ending.returned (.bool b)) (KEY.out _ ?_), rfl⟩
        rw [HN0.out, HN8.out]
        rfl
theorem four_false (V : Int) (x : Nat → Nat) (i : Nat) (h : i < 16) (h4 : 4 ≤ i) (hx : x i ≠ 0) : I4.four V x = false := by
  rw [Bool.eq_false_iff]
  intro hh
  exact hx (((I4.four_iff V x).1 hh).2 i h h4)
set_option maxHeartbeats 1600000 in
set_option maxRecDepth 100000 in
theorem four_any (V : Int) (x : Nat → Nat) (w : World) (hx : ∀ i, i < 16 → x i < 256) :
    Calls Tryd.prog 110 #[.agg (ipCells V x)] w fun e w' => e = .returned (.bool (I4.four V x)) ∧ Below w.heap.size w w' := by
  obtain ⟨W, hW⟩ : ∃ W, W = w.alloc (.cells (ipCells V x) 24) := ⟨_, rfl⟩
  obtain ⟨O, hO⟩ : ∃ O, O = w.heap.size := ⟨_, rfl⟩
  have bel : Below w.heap.size w W := by rw [hW]; exact (Below.refl _ _).alloc (Nat.le_refl _) _
  have hb : Boxed W O V x := by rw [hW, hO]; exact boxed_new _ _ _ _
  have HB : Hid (Boxed W O V x) := hb
  obtain ⟨C, hC⟩ : ∃ C, C = ipCells V x := ⟨_, rfl⟩
  have HW : Hid (w.alloc (.cells C 24) = W) := by rw [hC]; exact hW.symm
  have HO : Hid (w.heap.size = O) := hO.symm
  have HX : Hid (∀ i, i < 16 → x i < 256) := hx
  have c0 := hb.ver
  rw [← hC]
  clear hW hO hC hb hx
  go_enter Tryd.func110, Tryd.ntmps110
  go_upto_region 1 with fail
  rw [HW.out, HO.out]
  go_wp2
  go_loop [3] (fun ix => ∃ k : Nat, ix = .int .i64 k ∧ 4 ≤ k ∧ k ≤ 16 ∧ Hid (∀ j, 4 ≤ j → j < k → x j = 0)) (fun ix => 16 - (intOf ix).toNat)
  case atStart => exact ⟨4, rfl, by omega, by omega, by show ∀ j, 4 ≤ j → j < 4 → x j = 0; intro j h1 h2; omega⟩
  case round =>
    obtain ⟨k, rfl, hk4, hk16, HZ⟩ := hrel
    by_cases hlt : k < 16
    · have cc := HB.out.byte k hlt
      have k0 : (0 : Int) ≤ (k : Int) := by omega
      have k1 : (k : Int) < 16 := by omega
      have k2 : ((k : Int)).toNat = k := by omega
      have hk : x k < 256 := HX.out k hlt
      obtain ⟨y, hy⟩ : ∃ y, y = x k := ⟨_, rfl⟩
      rw [← hy] at cc hk
      have HY : Hid (y = x k) := hy
      clear hy
      by_cases hz : y = 0
      · subst hz
        go_wp2
        go_round
        case rel => exact ⟨k + 1, by go_num, by omega, by omega, by
          show ∀ j, 4 ≤ j → j < k + 1 → x j = 0
          intro j h1 h2
          by_cases e : j = k
          · rw [e]; exact HY.out.symm
          · exact HZ.out j h1 (by omega)⟩
        case measure => simp [intOf]; omega
      · have ny : ((y : Int) != 0) = true := by rw [bne_iff_ne]; omega
        have HF : Hid (I4.four V x = false) := four_false V x k hlt hk4 (by rw [← HY.out]; exact hz)
        clear hz
        go_wp2
        go_ret
        exact ⟨by rw [HF.out]; rfl, bel⟩
    · have hk : k = 16 := by omega
      subst hk
      have HF : Hid (∀ b, b = (V == 4) → b = I4.four V x) := by
        intro b hb
        rw [hb, Bool.eq_iff_iff, I4.four_iff, beq_iff_eq]
        exact ⟨fun h => ⟨h, fun i h1 h2 => HZ.out i h2 h1⟩, fun h => h.1⟩
      clear hlt
      go_wp2
      go_ret
      exact ⟨congrArg (fun b => Ending.returned (.bool b)) (HF.out _ rfl), bel⟩
end Go.Proofs.YtdinhgfkpjaipaaDoor
namespace Go.Proofs.YtdinhgfkpjaipaaDoor
open Go.RowKit
open I4 (H4)

theorem Tryd.sizeIPn : (Tryd.prog.info? 24).map (·.size) = some 17 := by kernel_rfl
set_option maxRecDepth 100000 in
theorem built_ip4 : Tryd.prog.built 24 [(0, .int .i64 4)] = some (ipCells 4 (fun _ => 0)) := by kernel_rfl
theorem wpList_build_ip4 {ops : Array Oper} {rest : List Oper} {o : Oper} {a : Act} {w : World} {Q : Exit → Act → World → Prop} (ho : o.op = .build 24 #[(0, .const (.int .i64 4))]) (hw : Region.wanted o (yielded ops a.tmps) = true)
    (h : wpList Tryd.prog ops Q rest (a.put o.dst (.agg (ipCells 4 (fun _ => 0)))) w) : wpList Tryd.prog ops Q (o :: rest) a w := by
  refine wpList_step fun K hK => ?_
  rw [if_pos hw]
  unfold Oper.wp execOp
  have := run_build (P := Tryd.prog) w 24 #[(0, .int .i64 4)] _ built_ip4
  simp only [ho, Sem.run_bind, List.map_toArray, List.map_cons, List.map_nil, Act.eval, this, Result.andThen_ok]
  exact hK _ _ h
set_option maxRecDepth 100000 in
theorem wpList_alloc_ip {ops : Array Oper} {rest : List Oper} {o : Oper} {a : Act} {w : World} {Q : Exit → Act → World → Prop} (ho : o.op = .alloc 24) (hw : Region.wanted o (yielded ops a.tmps) = true)
    (h : wpList Tryd.prog ops Q rest (a.put o.dst (.pointer (some ⟨w.heap.size, 0, none⟩))) (w.alloc (.cells (ipCells 0 (fun _ => 0)) 24))) : wpList Tryd.prog ops Q (o :: rest) a w := by
  refine wpList_step fun K hK => ?_
  rw [if_pos hw]
  have hrun : (execOp a.eval o).run Tryd.prog w = .ok (.value (.pointer (some ⟨w.heap.size, 0, none⟩))) (w.alloc (.cells (ipCells 0 (fun _ => 0)) 24)) := by
    obtain ⟨dst, op, type, pos, after, guard⟩ := o
    simp only at ho
    subst ho
    simp only [execOp]
    go_simp
    rfl
  unfold Oper.wp
  rw [hrun]
  exact hK _ _ h
theorem wpList_store_ip {ops : Array Oper} {rest : List Oper} {o : Oper} {a : Act} {w : World} {Q : Exit → Act → World → Prop} (x y : Operand) (ho : o.op = .store 24 x y) (hd : o.dst = none) (O : Nat) (v v' : Int) (f f' : Nat → Nat) (hx : a.eval x = .pointer (some ⟨O, 0, none⟩)) (hy : a.eval y = .agg (ipCells v' f')) (hb : IpAt w O v f)
    (hw : Region.wanted o (yielded ops a.tmps) = true) (hh : ∀ w', IpAt w' O v' f' → Ch (fun q => q = O) w w' → wpList Tryd.prog ops Q rest a w') : wpList Tryd.prog ops Q (o :: rest) a w := by
  refine wpList_step fun K hK => ?_
  rw [if_pos hw]
  refine wp_store_row 24 x y ho O (ipCells v' f') hx hy _ (ipCells v f) hb Tryd.sizeIPn rfl (by simp [ipCells, Value.oneCell']) (hK _ _ ?_)
  rw [hd]
  refine hh _ (setRow_heap w O _ _ _ _ hb) ⟨rfl, rfl, rfl, ?_, ?_⟩
  · simp [World.setRow]
  · intro k hk hne
    simp only [World.setRow]
    rw [Array.getElem?_modify, if_neg (fun e => hne e.symm)]
section
variable {w : World} {O : Nat} {v : Int} {f : Nat → Nat} (k : IpAt w O v f)
include k
theorem IpAt.lt : O < w.heap.size := (Array.getElem?_eq_some_iff.1 k).1
theorem IpAt.ch {S : Nat → Prop} {w' : World} (c : Ch S w w') (hS : ¬ S O) : IpAt w' O v f := (c.block O k.lt hS).trans k
theorem IpAt.below {w' : World} (c : Below w.heap.size w w') : IpAt w' O v f := (c.block O k.lt).trans k
theorem IpAt.cell (i : Nat) (hi : i < 16) : w.cell? ⟨O, 1 + i, none⟩ = some (.int .u8 (f i : Nat)) := by
  unfold IpAt at k
  simp [World.cell?, k, ipCells_eq, Nat.add_comm 1 i, hi]
theorem IpAt.fz (i : Nat) : w.frozen? ⟨O, i, none⟩ = false := by
  unfold IpAt at k
  simp [World.frozen?, k]
theorem IpAt.set (i y : Nat) (hi : i < 4) : IpAt (w.setCell ⟨O, 1 + i, none⟩ (.int .u8 (y : Nat))) O v (fun j => if j = i then y else f j) ∧ Ch (fun q => q = O) w (w.setCell ⟨O, 1 + i, none⟩ (.int .u8 (y : Nat))) := by
  refine ⟨?_, (Ch.refl _ _).set _ _ rfl⟩
  unfold IpAt at k ⊢
  rw [heap_setCell_same _ _ _ _ _ _ k]
  have : i = 0 ∨ i = 1 ∨ i = 2 ∨ i = 3 := by omega
  rcases this with rfl | rfl | rfl | rfl <;> rfl
end
theorem wpList_load_ipb {ops : Array Oper} {rest : List Oper} {o : Oper} {a : Act} {w : World} {Q : Exit → Act → World → Prop} (x : Operand) (ho : o.op = .load 24 x) (O : Nat) (v : Int) (f : Nat → Nat) (hx : a.eval x = .pointer (some ⟨O, 0, none⟩)) (hb : IpAt w O v f)
    (hw : Region.wanted o (yielded ops a.tmps) = true) (hh : wpList Tryd.prog ops Q rest (a.put o.dst (.agg (ipCells v f))) w) : wpList Tryd.prog ops Q (o :: rest) a w := by
  refine wpList_step fun K hK => ?_
  rw [if_pos hw]
  exact wp_load_row 24 x ho O hx _ _ _ _ hb Tryd.underlying24 rfl Tryd.sizeIPn (hK _ _ hh)
def ipk (l : List Nat) (i k : Nat) : Nat → Nat := fun j => if j < k then l.getD (i + j) 0 else 0
theorem ipk_step (l : List Nat) (i k : Nat) : (fun j => if j = k then l.getD (i + k) 0 else ipk l i k j) = ipk l i (k + 1) := by
  funext j
  unfold ipk
  by_cases e : j = k
  · subst e; rw [if_pos rfl, if_pos (by omega)]
  · rw [if_neg e]
    by_cases h : j < k
    · rw [if_pos h, if_pos (by omega)]
    · rw [if_neg h, if_neg (by omega)]
theorem ipk_four (l : List Nat) (i : Nat) : ipk l i 4 = I4.ipx l i := rfl
theorem ipk_zero (l : List Nat) (i : Nat) : ipk l i 0 = fun _ => 0 := by funext j; unfold ipk; rw [if_neg (by omega)]
set_option maxHeartbeats 3200000 in
set_option maxRecDepth 100000 in
theorem raddress_any (a : Option Addr) (n cap i : Nat) (l : List Nat) (w : World) (hn : l.length = n) (hs : Seg .u8 w a (toI l)) (h256 : ∀ x ∈ l, x < 256) (hi : i + 4 ≤ n) (hm : n ≤ 1048576) :
    Calls Tryd.prog 70 #[.slice a n cap, .int .i64 i] w fun e w' => e = .returned (.agg (ipCells 4 (I4.ipx l i))) ∧ Below w.heap.size w w' := by
  obtain ⟨b, off, rfl, hc⟩ := seg_at hs i (by omega)
  have hlt : b < w.heap.size := World.block_lt_of_cell? w _ (hc i (by omega))
  have HC : Hid (∀ j, j < l.length → w.cell? ⟨b, off + j, none⟩ = some (.int .u8 ((l.getD j 0 : Nat) : Int))) := fun j hj => hc j hj
  have HN : Hid (l.length = n) := hn
  have H256 : Hid (∀ j, l.getD j 0 < 256) := fun j => I4.getD_lt l h256 j
  obtain ⟨O, hO⟩ : ∃ O, O = w.heap.size := ⟨_, rfl⟩
  have HO : Hid (w.heap.size = O) := hO.symm
  have HLT : Hid (b < O) := by rw [hO]; exact hlt
  clear hn hs h256 hc hO hlt
  go_enter Tryd.func70, Tryd.ntmps70
  go_upto_region 1 with (first | (refine wpList_alloc_ip rfl rfl ?_))
  rw [HO.out]
  obtain ⟨W1, hW1⟩ : ∃ W1, W1 = w.alloc (.cells (ipCells 0 (fun _ => 0)) 24) := ⟨_, rfl⟩
  have hA1 : IpAt W1 O 0 (fun _ => 0) := by rw [hW1, ← HO.out]; exact heap_alloc_new _ _
  have b1 : Below w.heap.size w W1 := by rw [hW1]; exact (Below.refl _ _).alloc (Nat.le_refl _) _
  have s1 : W1.heap.size = O + 1 := by rw [hW1, World.size_alloc, HO.out]
  rw [← hW1]
  have HA1 : Hid (IpAt W1 O 0 (fun _ => 0)) := hA1
  have HS1 : Hid (W1.heap.size = O + 1) := s1
  clear hW1 hA1 s1
  go_wp2_with (first | (refine wpList_build_ip4 rfl rfl ?_) | (refine wpList_alloc_ip rfl rfl ?_) | (refine wpList_store_ip (.tmp 5) (.tmp 7) rfl rfl W1.heap.size 0 4 (fun _ => 0) (fun _ => 0) rfl rfl (heap_alloc_new _ _) rfl ?_))
  intro w2 hP2 k2
  have b2 := bthen b1 (stored_below k2)
  have HA2 : Hid (IpAt w2 O 0 (fun _ => 0)) := IpAt.below HA1.out (stored_below k2)
  rw [HS1.out] at hP2 ⊢
  have HP2 : Hid (IpAt w2 (O + 1) 4 (ipk l i 0)) := by rw [ipk_zero]; exact hP2
  clear hP2 k2 b1
  go_wp2
  go_loopw [6] (fun ix wr => ∃ k : Nat, ix = .int .i64 k ∧ k ≤ 4 ∧ Hid (IpAt wr (O + 1) 4 (ipk l i k)) ∧ Hid (IpAt wr O 0 (fun _ => 0)) ∧ Hid (Below w.heap.size w wr)) (fun ix _ => 4 - (intOf ix).toNat)
  case atStart => exact ⟨0, rfl, by omega, HP2, HA2, b2⟩
  case round =>
    obtain ⟨k, rfl, hk, HP, HA, HBE⟩ := hrel
    by_cases hk4 : k < 4
    · have cc := (HBE.out.cell (p := ⟨b, off + (i + k), none⟩) (by show b < w.heap.size; rw [HO.out]; exact HLT.out)).trans (HC.out (i + k) (by rw [HN.out]; omega))
      have dd := HP.out.cell k (by omega)
      have zz := HP.out.fz (1 + k)
      have w1 : IntKind.i64.wrap ((i : Int) + (k : Int)) = ((i + k : Nat) : Int) := by rw [IntKind.wrap_i64]; omega
      have k0 : (0 : Int) ≤ ((i + k : Nat) : Int) := by omega
      have k1 : ((i + k : Nat) : Int) < (n : Int) := by omega
      have k2 : (((i + k : Nat) : Int)).toNat = i + k := by omega
      have q0 : (0 : Int) ≤ (k : Int) := by omega
      have q1 : (k : Int) < 16 := by omega
      have q2 : ((k : Int)).toNat = k := by omega
      have q3 : (k : Int) < 4 := by omega
      have yl := H256.out (i + k)
      have hset := HP.out.set k (l.getD (i + k) 0) hk4
      rw [ipk_step] at hset
      obtain ⟨y, hy⟩ : ∃ y, y = l.getD (i + k) 0 := ⟨_, rfl⟩
      rw [← hy] at cc yl hset
      have HSET : Hid _ := hset
      have HOO : Hid _ := HO.out
      clear hy hset
      go_wp2
      go_roundw
      case rel => exact ⟨k + 1, by go_num, by omega, HSET.out.1, HA.out.ch HSET.out.2 (show ¬ O = O + 1 by omega), HBE.out.trans (HSET.out.2.below (fun q e => by have e' : q = O + 1 := e; have := HO.out; omega) HBE.out.size)⟩
      case measure => simp [intOf]; omega
    · have e4 : k = 4 := by omega
      subst e4
      clear hk4
      go_wp2_with (first | (refine wpList_load_ipb (.tmp 5) rfl (O + 1) 4 (ipk l i 4) rfl HP.out rfl ?_) | (refine wpList_store_ip (.tmp 4) (.tmp 21) rfl rfl O 0 4 (fun _ => 0) (ipk l i 4) rfl rfl HA.out rfl ?_))
      intro w5 hP5 k5
      have HP5 : Hid (IpAt w5 O 4 (ipk l i 4)) := hP5
      have HF5 : Hid (Below w.heap.size w w5) := HBE.out.trans (k5.below (fun q e => by have e' : q = O := e; have := HO.out; omega) HBE.out.size)
      clear hP5 k5
      go_wp2
      (try simp only [Exit.inBlock, Exit.then])
      refine bodyPost_ret (v := .agg (ipCells 4 (ipk l i 4))) ?_ rfl ⟨by rw [ipk_four], HF5.out⟩
      exact results_cell_row rfl _ _ O 24 _ _ _ rfl HP5.out Tryd.underlying24 rfl Tryd.sizeIPn
end Go.Proofs.YtdinhgfkpjaipaaDoor
namespace Go.Proofs.YtdinhgfkpjaipaaDoor
open Go.RowKit
open I4 (H4 scan Op4)

theorem yields_u8 {ops : Array Oper} {o : Oper} {a : Act} {S : World → Prop} (x : Operand) (ho : o.op = .load 5 x) (p : Addr) (u : Value) (hx : a.eval x = .pointer (some p)) (hw : Region.wanted o (yielded ops a.tmps) = true) (hS : ∀ w, S w → w.cell? p = some u) : YieldsIf Tryd.prog ops S o u a := by
  refine .inl ⟨hw, fun w hb => ?_⟩
  have hc := hS w hb
  have hu := Tryd.underlying5
  obtain ⟨dst, op, type, pos, after, guard⟩ := o
  simp only at ho
  subst ho
  simp only [execOp, Sem.run_bind, Sem.run_pure]
  rw [hx]
  simp [Instr.loadAt, go_sem, hc]
/-- the state of the loop -/
structure RoS (w : World) (bs : List Nat) (v : Value) (i : Nat) (ops : List Op4) (ps : List OpV) (wr : World) : Prop where
  own : wr.ownsRow w.heap.size 43 2 v ps.length (opCs ps)
  rows : ∀ p ∈ ps, wr.ownsRow w.heap.size 5 1 (.slice p.a p.d.length p.c) p.d.length ((toI p.d).map (Value.int .u8))
  vs : vals ps = ops.map (fun o => I4.intO (I4.ov bs o))
  sc : scan bs 0 = (scan bs i).map (fun l => ops ++ l)
  bel : Below w.heap.size w wr
  hi : i ≤ bs.length
  cnt : ops.length ≤ i
theorem RoS.len {w wr : World} {bs : List Nat} {v : Value} {i : Nat} {ops : List Op4} {ps : List OpV} (h : RoS w bs v i ops ps wr) : ps.length = ops.length := by
  have := congrArg List.length h.vs
  simpa [vals] using this
theorem RoS.below {w wr w' : World} {bs : List Nat} {v : Value} {i : Nat} {ops : List Op4} {ps : List OpV} (h : RoS w bs v i ops ps wr) (b : Below wr.heap.size wr w') : RoS w bs v i ops ps w' :=
  ⟨owns_below h.own b, fun p hp => owns_below (h.rows p hp) b, h.vs, h.sc, h.bel.trans (b.mono h.bel.size), h.hi, h.cnt⟩
theorem RoS.opts {w wr : World} {bs : List Nat} {la : Option Addr} {n lc i : Nat} {ops : List Op4} {ps : List OpV} (h : RoS w bs (.slice la n lc) i ops ps wr) (hn : ps.length = n) (h256 : ∀ x ∈ bs, x < 256) : OptsAt wr la ps := by
  have hown := h.own
  rw [hn] at hown
  rcases hown.2 with ⟨_, h0⟩ | ⟨g, cap, cur, e, _, hg, _, _, _, ht⟩
  · left; exact List.eq_nil_of_length_eq_zero (by omega)
  · simp only [Value.slice.injEq, true_and] at e
    obtain ⟨rfl, rfl⟩ := e
    refine .inr ⟨g, 0, rfl, (Array.getElem?_eq_some_iff.1 hg).1, fun j o hj => ?_⟩
    have hpm := List.mem_of_getElem? hj
    have hin : j < n := by have := (List.getElem?_eq_some_iff.1 hj).1; omega
    obtain ⟨c1, c2⟩ := opCs_get ps j o hj
    have d1 := hown.cellAt (j * 2) (by omega)
    have d2 := hown.cellAt (j * 2 + 1) (by omega)
    rw [c1] at d1
    rw [c2] at d2
    obtain ⟨a', c', e1, hsg, _, q1, q2⟩ := owns_seg (h.rows o hpm)
    simp only [Value.slice.injEq, true_and] at e1
    refine ⟨⟨by rw [e1.1]; exact hsg, ?_, by rw [e1.2]; exact q1, by rw [e1.2]; unfold maxLen at q2; exact q2⟩, by rw [Nat.zero_add]; exact d1, by rw [Nat.zero_add]; exact d2⟩
    have hv : o.val ∈ vals ps := List.mem_map.2 ⟨o, hpm, rfl⟩
    rw [h.vs] at hv
    obtain ⟨q, _, hq⟩ := List.mem_map.1 hv
    intro x hx
    have hx2 : x ∈ o.val.2 := hx
    rw [← hq] at hx2
    exact h256 x (List.mem_of_mem_drop (List.mem_of_mem_take hx2))
/-- what it answers -/
def ROpt (w : World) (bs : List Nat) (e : Ending) (w' : World) : Prop :=
  (bs.length ≤ 40 ∧ ∃ ops lb lc ps, scan bs 0 = some ops ∧ e = .returned (.tuple #[.slice lb ops.length lc, .int .i64 0]) ∧ List.length ps = ops.length ∧ vals ps = ops.map (fun o => I4.intO (I4.ov bs o)) ∧ OptsAt w' lb ps ∧ w'.ownsRow w.heap.size 43 2 (.slice lb ops.length lc) ops.length (opCs ps) ∧ ∀ p ∈ ps, ∀ x, p.a = some x → w.heap.size ≤ x.block) ∨
  ((40 < bs.length ∨ scan bs 0 = none) ∧ e = .returned (.tuple #[.slice none 0 0, .int .i64 65]))
set_option maxHeartbeats 6400000 in
set_option maxRecDepth 100000 in
theorem ropts_any (a : Option Addr) (n cap : Nat) (bs : List Nat) (w : World) (hn : bs.length = n) (hs : Seg .u8 w a (toI bs)) (h256 : ∀ x ∈ bs, x < 256) (h2 : n ≤ cap) :
    Calls Tryd.prog 39 #[.slice a n cap] w fun e w' => Below w.heap.size w w' ∧ ROpt w bs e w' := by
  obtain ⟨i0, hi, hz0, hz1, hz2⟩ := info_parts Tryd.infoOpt
  by_cases h40 : 40 < n
  · have HF : Hid (40 < bs.length) := by rw [hn]; exact h40
    have c1 : (40 : Int) < (n : Int) := by omega
    clear hn hs h256 h40
    go_enter Tryd.func39, Tryd.ntmps39
    go_wp2
    go_ret2
    exact ⟨Below.refl _ _, .inr ⟨.inl HF.out, rfl⟩⟩
  have HN : Hid (bs.length = n) := hn
  have H256 : Hid (∀ x ∈ bs, x < 256) := h256
  have HSEG : Hid (Seg .u8 w a (toI bs)) := hs
  have HS0 : Hid (RoS w bs (.slice none 0 0) 0 [] [] w) := ⟨World.ownsRow_nil _ _ _ _, by simp, by simp [vals], by cases scan bs 0 <;> simp, Below.refl _ _, Nat.zero_le _, Nat.le_refl _⟩
  have c1 : ¬ (40 : Int) < (n : Int) := by omega
  have HFIN : Hid (∀ (i : Nat) (v : Value) (ops : List Op4) (ps : List OpV) (wr : World), RoS w bs v i ops ps wr → scan bs i = some [] → Below w.heap.size w wr ∧ ROpt w bs (.returned (.tuple #[v, .int .i64 0])) wr) := by
    intro i v ops ps wr h hsc
    refine ⟨h.bel, .inl ⟨by omega, ops, ?_⟩⟩
    obtain ⟨lb, lc, rfl⟩ := owns_shape h.own
    have hl := h.len
    refine ⟨lb, lc, ps, ?_, by rw [hl], hl, h.vs, h.opts rfl h256, ?_⟩
    · rw [h.sc, hsc]; simp
    · have := h.own; rw [hl] at this; exact ⟨this, fun p hp x hx => (own_blk (h.rows p hp) x hx).1⟩
  clear hn hs h256 h40
  go_enter Tryd.func39, Tryd.ntmps39
  go_wp2
  go_loopw [4, 5] (fun l ix wr => ∃ (i : Nat) (v : Value) (ops : List Op4) (ps : List OpV), v = l ∧ ix = .int .i64 i ∧ i ≤ n ∧ Hid (RoS w bs v i ops ps wr)) (fun _ ix _ => n - (intOf ix).toNat)
  case atStart => exact ⟨0, _, [], [], rfl, rfl, Nat.zero_le _, HS0⟩
  case round =>
    obtain ⟨i, v, ops, ps, rfl, rfl, hin, HS⟩ := hrel
    by_cases hlt : i < n
    case neg =>
      have hk : i = n := by omega
      have hni : ¬ ((i : Int) < (n : Int)) := by omega
      have HSC : Hid (scan bs i = some []) := by show _ = _; rw [scan, dif_neg (by rw [HN.out]; omega)]
      clear hlt hk
      go_wp2
      go_ret2
      exact HFIN.out _ _ _ _ _ HS.out HSC.out
    obtain ⟨b, off, rfl, hc⟩ := seg_at HSEG.out i (by rw [HN.out]; exact hlt)
    have hbl : b < w.heap.size := World.block_lt_of_cell? w _ (hc i (by rw [HN.out]; exact hlt))
    have HC : Hid (∀ A, Below w.heap.size w A → ∀ j, j < n → A.cell? ⟨b, off + j, none⟩ = some (.int .u8 ((bs.getD j 0 : Nat) : Int))) := fun A hA j hj => (hA.cell (p := ⟨b, off + j, none⟩) hbl).trans (hc j (by rw [HN.out]; exact hj))
    have e0 := HC.out wr HS.out.bel i hlt
    have x4 := I4.getD_lt bs H256.out i
    obtain ⟨x, hx⟩ : ∃ x, x = bs.getD i 0 := ⟨_, rfl⟩
    rw [← hx] at e0 x4
    have HX : Hid (x = bs.getD i 0) := hx
    have k0 : (0 : Int) ≤ (i : Int) := by omega
    have k1 : (i : Int) < (n : Int) := by omega
    have k2 : ((i : Int)).toNat = i := by omega
    have w1 : IntKind.i64.wrap ((i : Int) + 1) = (i : Int) + 1 := by rw [IntKind.wrap_i64]; omega
    clear hx hc hbl
    by_cases x0 : x = 0
    · have q0 : ((x : Int) != 0) = false := by simp [x0]
      have HSC : Hid (scan bs i = some []) := by show _ = _; rw [scan, dif_pos (by rw [HN.out]; exact hlt), if_pos (by rw [← HX.out]; exact x0)]
      clear x0
      go_wp2
      go_ret2
      exact HFIN.out _ _ _ _ _ HS.out HSC.out
    have q0 : ((x : Int) != 0) = true := by rw [bne_iff_ne]; omega
    by_cases x1 : x = 1
    · have q1 : ((x : Int) == 1) = true := by simp [x1]
      have HS2 : Hid (RoS w bs v (i + 1) ops ps wr) := by
        have h := HS.out
        refine ⟨h.own, h.rows, h.vs, ?_, h.bel, by rw [HN.out]; omega, by have := h.cnt; omega⟩
        have e : scan bs i = scan bs (i + 1) := by
          conv => lhs; rw [scan]
          rw [dif_pos (by rw [HN.out]; exact hlt), if_neg (by rw [← HX.out]; exact x0), if_pos (by rw [← HX.out]; exact x1)]
        rw [← e]; exact h.sc
      clear x0 x1
      go_wp2
      go_roundw
      case rel => exact ⟨i + 1, v, ops, ps, rfl, by go_num, by omega, HS2⟩
      case measure => simp [intOf]; omega
    have q1 : ((x : Int) == 1) = false := by rw [beq_eq_false_iff_ne]; omega
    by_cases hbig : i + 1 < n
    case neg =>
      have l1 : (n : Int) ≤ (i : Int) + 1 := by omega
      have HSC : Hid (scan bs 0 = none) := by
        show _ = _
        rw [HS.out.sc, scan, dif_pos (by rw [HN.out]; exact hlt), if_neg (by rw [← HX.out]; exact x0), if_neg (by rw [← HX.out]; exact x1), dif_neg (by rw [HN.out]; omega)]
        rfl
      clear x0 x1 hbig
      go_wp2
      go_ret2
      exact ⟨HS.out.bel, .inr ⟨.inr HSC.out, rfl⟩⟩
    have l1 : ¬ (n : Int) ≤ (i : Int) + 1 := by omega
    have k3 : (0 : Int) ≤ (i : Int) + 1 := by omega
    have k4 : (i : Int) + 1 < (n : Int) := by omega
    have k5 : ((i : Int) + 1).toNat = i + 1 := by omega
    have e1 := HC.out wr HS.out.bel (i + 1) hbig
    have y4 := I4.getD_lt bs H256.out (i + 1)
    obtain ⟨y, hy⟩ : ∃ y, y = bs.getD (i + 1) 0 := ⟨_, rfl⟩
    rw [← hy] at e1 y4
    have HY : Hid (y = bs.getD (i + 1) 0) := hy
    have w2 : IntKind.i64.wrap ((i : Int) + (y : Int)) = (i : Int) + (y : Int) := by rw [IntKind.wrap_i64]; omega
    clear hy
    by_cases hy2 : y < 2
    · have l2 : (y : Int) < 2 := by omega
      have HSC : Hid (scan bs 0 = none) := by
        show _ = _
        rw [HS.out.sc, scan, dif_pos (by rw [HN.out]; exact hlt), if_neg (by rw [← HX.out]; exact x0), if_neg (by rw [← HX.out]; exact x1), dif_neg (by rw [HN.out, ← HY.out]; omega)]
        rfl
      clear x0 x1 hbig hy2
      go_wp2
      go_ret2
      exact ⟨HS.out.bel, .inr ⟨.inr HSC.out, rfl⟩⟩
    have l2 : ¬ (y : Int) < 2 := by omega
    by_cases hfit : i + y ≤ n
    case neg =>
      have l3 : (n : Int) < (i : Int) + (y : Int) := by omega
      have HSC : Hid (scan bs 0 = none) := by
        show _ = _
        rw [HS.out.sc, scan, dif_pos (by rw [HN.out]; exact hlt), if_neg (by rw [← HX.out]; exact x0), if_neg (by rw [← HX.out]; exact x1), dif_neg (by rw [HN.out, ← HY.out]; omega)]
        rfl
      clear x0 x1 hbig hy2 hfit
      go_wp2
      go_ret2
      exact ⟨HS.out.bel, .inr ⟨.inr HSC.out, rfl⟩⟩
    have l3 : ¬ (n : Int) < (i : Int) + (y : Int) := by omega
    obtain ⟨D, hD⟩ : ∃ D, y = D + 2 := ⟨y - 2, by omega⟩
    have HD : Hid (y = D + 2) := hD
    have HSTEP : Hid (scan bs 0 = (scan bs (i + y)).map (fun l => (ops ++ [⟨x, i + 2, D⟩]) ++ l)) := by
      show _ = _
      rw [HS.out.sc]
      conv => lhs; rw [scan]
      rw [dif_pos (by rw [HN.out]; exact hlt), if_neg (by rw [← HX.out]; exact x0), if_neg (by rw [← HX.out]; exact x1), dif_pos (by rw [HN.out, ← HY.out]; omega), ← HX.out, ← HY.out]
      have e : y - 2 = D := by omega
      rw [e]
      cases scan bs (i + y) <;> simp
    have w3 : IntKind.i64.wrap ((i : Int) + 2) = (i : Int) + 2 := by rw [IntKind.wrap_i64]; omega
    have m0 : (0 : Int) ≤ (i : Int) + 2 := by omega
    have m1 : (i : Int) + 2 ≤ (i : Int) + (y : Int) := by omega
    have m2 : (i : Int) + (y : Int) ≤ (cap : Int) := by omega
    have m3 : ((i : Int) + 2).toNat = i + 2 := by omega
    have m4 : ((i : Int) + (y : Int)).toNat = i + y := by omega
    have m5 : i + y - (i + 2) = D := by omega
    have hDn : i + 2 + D ≤ n := by omega
    clear hD
    have HDD : Hid (Seg .u8 w (some ⟨b, off + (i + 2), none⟩) (toI ((bs.drop (i + 2)).take D))) := by
      have := HSEG.out.part (i + 2) D (by rw [toI_len, HN.out]; omega)
      rw [toI_drop, toI_take] at this
      show Seg .u8 w (some ⟨b, off + (i + 2), none⟩) _
      simpa [Addr.add] using this
    have HDL : Hid (((bs.drop (i + 2)).take D).length = D) := by show _ = _; rw [List.length_take, List.length_drop, HN.out]; omega
    have QQ : Hid (∀ (A : World) (ad : Option Addr) (cc : Nat), Below w.heap.size w A → (D = 0 ∨ ad = some ⟨b, off + (i + 2), none⟩) → Calls Tryd.prog 27 #[.slice ad D cc] A fun e w' => ∃ v, e = .returned v ∧ w'.ownsRow A.heap.size 5 1 v D ((toI ((bs.drop (i + 2)).take D)).map (Value.int .u8)) ∧ Below A.heap.size A w') := by
      intro A ad cc hA had
      refine copied_any ad D cc _ A HDL.out ?_ (by omega)
      rcases had with h0 | rfl
      · left; rw [h0]; rfl
      · exact HDD.out.old hA
    obtain ⟨dd, hdd⟩ : ∃ dd, dd = (bs.drop (i + 2)).take D := ⟨_, rfl⟩
    have HDV : Hid (dd = (bs.drop (i + 2)).take D) := hdd
    rw [← hdd] at QQ HDL
    have HX4 : Hid (∀ A, Below w.heap.size w A → A.cell? ⟨b, off + i, none⟩ = some (.int .u8 (x : Int))) := fun A hA => by rw [HX.out]; exact HC.out A hA i hlt
    have hyl : i < i + y ∧ i + y ≤ n := by omega
    have HYL : Hid (i < i + y ∧ i + y ≤ n) := hyl
    obtain ⟨ad, had⟩ : ∃ ad, (if cap = i + 2 then some (⟨b, off, none⟩ : Addr) else some ⟨b, off + (i + 2), none⟩) = ad := ⟨_, rfl⟩
    have HAD : Hid (D = 0 ∨ ad = some ⟨b, off + (i + 2), none⟩) := by
      show _ ∨ _
      rw [← had]
      by_cases e : cap = i + 2
      · left; omega
      · right; rw [if_neg e]
    clear x0 x1 hbig hy2 hfit hdd hyl
    go_upto_region 11 with fail
    go_wp2
    refine MixH.start (fun x => Below w.heap.size w x) (by kernel_rfl) ?_
    obtain ⟨wA, hwA⟩ : ∃ wA, wA = wr.drew := ⟨_, rfl⟩
    have HSA : Hid (RoS w bs v i ops ps wA) := by rw [hwA]; exact HS.out.below (Below.refl _ _).drew
    have hS : Below w.heap.size w wA := HSA.out.bel
    rw [← hwA]
    clear hwA HS e0 e1
    refine MixH.takes [true, true, true, true, false, false, true, true, true, true, true, true] 8 (by kernel_rfl) (by kernel_rfl) (by decide) (by kernel_rfl) hS (fun K hK => ?_)
    simp only [Mix.pick]
    repeat (go_big_quiet_step (fail))
    refine wpQuiet_nil (hK _ ?_)
    clear hK K
    refine MixH.take 7 4 _ (.int .u8 (x : Int)) rfl (by kernel_rfl) (by kernel_rfl) (by kernel_rfl) (by kernel_rfl) (yields_u8 (.tmp 63) rfl ⟨b, off + i, none⟩ _ rfl rfl HX4.out) hS (fun a' ha => ?_)
    simp only [Act.put, List.setIfInBounds_toArray, List.set_cons_succ, List.set_cons_zero] at ha
    subst ha
    refine MixH.takes [false, false, false, false, false, true, false, false, false, false, false, false, true] 5 (by kernel_rfl) (by kernel_rfl) (by decide) (by kernel_rfl) hS (fun K hK => ?_)
    simp only [Mix.pick]
    repeat (go_big_quiet_step (fail))
    refine wpQuiet_nil (hK _ ?_)
    clear hK K
    try rw [had]
    clear had
    refine MixH.one [false, false, false, false, false, false, false, false, false, false, false, false, false, true] 4 13 _ rfl rfl (by kernel_rfl) (by kernel_rfl) (fun K hK => ?_)
    simp only [Mix.pick]
    go_wp2_with fail
    refine Calls.mono (QQ.out wA ad _ hS HAD.out) ?_
    rintro e w1 ⟨v1, rfl, ho1, hb1⟩
    obtain ⟨va, vc, rfl⟩ := owns_shape ho1
    have HSB : Hid (RoS w bs v i ops ps w1) := HSA.out.below hb1
    have HO1 : Hid (w1.ownsRow w.heap.size 5 1 (.slice va D vc) D ((toI dd).map (Value.int .u8))) := owns_mono ho1 hS.size
    replace hS : Below w.heap.size w w1 := HSB.out.bel
    clear ho1 hb1 HSA QQ
    go_wp2
    refine ⟨rfl, hK _ _ hS ?_⟩
    clear hK K
    refine MixH.one [false, false, false, false, false, false, false, false, false, false, false, false, false, false, true] 3 14 _ rfl rfl (by kernel_rfl) (by kernel_rfl) (fun K hK => ?_)
    simp only [Mix.pick]
    go_wp2
    refine ⟨rfl, hK _ _ hS ?_⟩
    clear hK K
    refine MixH.one [false, false, false, false, false, false, false, false, false, false, false, false, false, false, false, true] 2 15 _ rfl rfl (by kernel_rfl) (by kernel_rfl) (fun K hK => ?_)
    simp only [Mix.pick]
    have hSn : Below w.heap.size w (w1.alloc (.cells #[.int .i64 x, .slice va D vc] 43)) := hS.alloc hS.size _
    go_wp2
    clear hS
    have hS := hSn
    refine ⟨rfl, hK _ _ hS ?_⟩
    clear hK K
    obtain ⟨w2, hw2⟩ : ∃ w2, w2 = w1.alloc (.cells #[.int .i64 x, .slice va D vc] 43) := ⟨_, rfl⟩
    have b12 : Below w1.heap.size w1 w2 := by rw [hw2]; exact (Below.refl _ _).alloc (Nat.le_refl _) _
    have HSC : Hid (RoS w bs v i ops ps w2) := HSB.out.below b12
    have HO2 : Hid (w2.ownsRow w.heap.size 5 1 (.slice va D vc) D ((toI dd).map (Value.int .u8))) := owns_below HO1.out b12
    have TWO : Hid (∀ j u, ([.int .i64 x, .slice va D vc] : List Value)[j]? = some u → w2.cell? ((⟨w1.heap.size, 0, none⟩ : Addr).add j) = some u) := by rw [hw2]; exact two_new _ _ _ _
    obtain ⟨K0, hK0⟩ : ∃ K0, K0 = ps.length := ⟨_, rfl⟩
    have hown : w2.ownsRow w.heap.size 43 2 v K0 (opCs ps) := by rw [hK0]; exact HSC.out.own
    have hK1 : K0 ≤ n := by have h1 := HSC.out.cnt; have h2 := HSC.out.len; omega
    have HK0 : Hid (K0 = ps.length) := hK0
    have hsz : w.heap.size ≤ w2.heap.size := HSC.out.bel.size
    rw [← hw2] at hS hSn ⊢
    clear hw2 b12 HSB HO1 hSn hK0
    refine MixH.one [false, false, false, false, false, false, false, false, false, false, false, false, false, false, false, false, true] 1 16 _ rfl rfl (by kernel_rfl) (by kernel_rfl) (fun K hK => ?_)
    simp only [Mix.pick]
    refine wpList_append_own_at _ rfl (.tmp 60) (.tmp 75) 25 rfl w.heap.size 43 i0 _ 2 32 Tryd.underlying25 hi hz0 hz1 hz2 rfl (by decide) v K0 (opCs ps) rfl hown ⟨w1.heap.size, 0, none⟩ 1 1 [.int .i64 x, .slice va D vc] rfl rfl TWO.out ?c2 ?c3 ?c4 hsz ?_
    case c2 => intro u hu; simp at hu; rcases hu with rfl | rfl <;> rfl
    case c3 => unfold maxLen; omega
    case c4 => omega
    intro v5 w5 ho5 hg5 _ hblk
    have HS5 : Hid (RoS w bs v5 (i + y) (ops ++ [⟨x, i + 2, D⟩]) (ps ++ [⟨x, va, vc, dd⟩]) w5) := by
      have hne : 5 ≠ 43 := by decide
      refine ⟨?_, ?_, ?_, HSTEP.out, ?_, by rw [HN.out]; exact HYL.out.2, ?_⟩
      · rw [opCs_snoc, List.length_append, ← HK0.out]
        have e2 : OpCells ⟨x, va, vc, dd⟩ = [.int .i64 x, .slice va D vc] := by rw [OpCells, HDL.out]
        rw [e2]
        exact ho5
      · intro p hp
        rcases List.mem_append.1 hp with hp | hp
        · exact (HSC.out.rows p hp).kept hg5 (apartN (HSC.out.rows p hp) HSC.out.own hne)
        · simp at hp
          subst hp
          show w5.ownsRow w.heap.size 5 1 (.slice va dd.length vc) dd.length _
          rw [HDL.out]
          exact HO2.out.kept hg5 (apartN HO2.out HSC.out.own hne)
      · rw [vals, List.map_append, List.map_append]
        have := HSC.out.vs
        rw [vals] at this
        rw [this, HDV.out]
        rfl
      · exact HSC.out.bel.grown hg5 hsz (fun q hq => (HSC.out.own.lt q hq).1)
      · have := HSC.out.cnt
        have := HYL.out
        rw [List.length_append]
        simp
        omega
    replace hS : Below w.heap.size w w5 := HS5.out.bel
    clear ho5 hg5 hblk hown HSC HO2 TWO
    go_wp2
    refine ⟨rfl, hK _ _ hS ?_⟩
    clear hK K
    refine MixH.takes [false, false, false, false, false, false, false, false, false, false, false, false, false, false, false, false, false, true] 0 (by kernel_rfl) (by kernel_rfl) (by decide) (by kernel_rfl) hS (fun K hK => ?_)
    simp only [Mix.pick]
    repeat (go_big_quiet_step (fail))
    refine wpQuiet_nil (hK _ ?_)
    clear hK K
    refine MixH.done (by kernel_rfl) ?_
    go_wp2
    go_roundw
    case rel => exact ⟨i + y, v5, _, _, rfl, by go_num, HYL.out.2, HS5⟩
    case measure => have := HYL.out; simp [intOf]; omega
end Go.Proofs.YtdinhgfkpjaipaaDoor
namespace Go.Proofs.YtdinhgfkpjaipaaDoor
open Go.RowKit
open I4 (H4)

theorem seg_newz (w : World) (zs : List Int) (t : TypeId) : Seg .u8 (w.alloc (.cells (zs.map (Value.int .u8)).toArray t)) (some ⟨w.heap.size, 0, none⟩) zs := by
  refine .inr ⟨w.heap.size, 0, rfl, fun i hi => ?_⟩
  rw [World.cell?_alloc_at _ _ _ _ rfl]
  simp [hi, List.getD]
theorem owns_some {w : World} {B : Nat} {e : TypeId} {s m : Nat} {v : Value} {xs : List Value} (h : w.ownsRow B e s v m xs) (hm : 0 < m) : ∃ g c, v = .slice (some ⟨g, 0, none⟩) m c := by
  rcases h.2 with ⟨_, h0⟩ | ⟨g, cap, cur, e1, _⟩
  · omega
  · exact ⟨g, cap, e1⟩
set_option maxHeartbeats 800000 in
set_option maxRecDepth 100000 in
theorem wide_any (a : Option Addr) (n cap : Nat) (l : List Nat) (w : World) (hn : l.length = n) (hs : Seg .u8 w a (toI l)) (hm : n ≤ 1048576) :
    Calls Tryd.prog 25 #[.slice a n cap] w fun e w' => ∃ g c, e = .returned (.slice (some ⟨g, 0, none⟩) (n + 3) c) ∧ w'.ownsRow w.heap.size 5 1 (.slice (some ⟨g, 0, none⟩) (n + 3) c) (n + 3) ((toI (l ++ [91, 92, 93])).map (Value.int .u8)) ∧ Below w.heap.size w w' := by
  obtain ⟨i0, hi, hz0, hz1, hz2⟩ := info_parts Tryd.infoByte
  have QC : Hid _ := copied_any a n cap l w hn hs (by omega)
  clear hn hs
  go_enter Tryd.func25, Tryd.ntmps25
  go_wp2_with fail
  refine Calls.mono QC.out ?_
  rintro e w1 ⟨v1, rfl, ho1, hb1⟩
  have HO1 : Hid (w1.ownsRow w.heap.size 5 1 v1 n ((toI l).map (Value.int .u8))) := ho1
  have hsz : w.heap.size ≤ w1.heap.size := hb1.size
  have HB1 : Hid (Below w.heap.size w w1) := hb1
  clear ho1 hb1 QC
  go_wp2_with (first | (at_builtin; refine append_split_seg rfl (.tmp 6) (.tmp 7) 26 rfl w.heap.size 5 i0 (.int .u8 0) 1 Tryd.underlying26 hi hz0 hz1 hz2 rfl v1 n _ rfl (HO1.out.alloc _) .u8 (some ⟨w1.heap.size, 0, none⟩) 3 3 [91, 92, 93] rfl rfl (seg_newz w1 [91, 92, 93] _) (by unfold maxLen; omega) (by omega) (by simp; omega) ?_))
  intro v' w' ho hq hg
  have bA : Below w.heap.size w (w1.alloc (.cells #[.int .u8 91, .int .u8 92, .int .u8 93] 5)) := HB1.out.alloc HB1.out.size _
  have hb : Below w.heap.size w w' := bA.grown hg (by simp; omega) (fun q hq => (HO1.out.lt q hq).1)
  obtain ⟨g, c, rfl⟩ := owns_some ho (by omega)
  have HO : Hid (w'.ownsRow w.heap.size 5 1 (.slice (some ⟨g, 0, none⟩) (n + 3) c) (n + 3) ((toI (l ++ [91, 92, 93])).map (Value.int .u8))) := by
    have e : (toI (l ++ [91, 92, 93])).map (Value.int .u8) = (toI l).map (Value.int .u8) ++ ([91, 92, 93] : List Int).map (Value.int .u8) := by simp [toI]
    rw [e]
    exact ho
  clear ho hq hg bA
  go_wp2
  go_ret
  exact ⟨g, c, rfl, HO.out, hb⟩
set_option maxHeartbeats 1600000 in
set_option maxRecDepth 100000 in
theorem kept_any (g o : Nat) (b : Option Addr) (n c cb : Nat) (l : List Nat) (w : World) (hn : l.length = n) (hs : Seg .u8 w (some ⟨g, o, none⟩) (toI (l ++ [91, 92, 93]))) (hb : Seg .u8 w b (toI l)) (h256 : ∀ x ∈ l, x < 256) (hc : n + 3 ≤ c) (hm : n ≤ 1048576) :
    Calls Tryd.prog 26 #[.slice (some ⟨g, o, none⟩) (n + 3) c, .slice b n cb] w fun e w' => e = .returned (.bool true) ∧ w = w' := by
  have hl : (l ++ [91, 92, 93]).length = n + 3 := by simp; omega
  obtain ⟨g', o', e1, hcs⟩ := seg_at hs n (by omega)
  have e2 := Option.some.inj e1
  simp only [Addr.mk.injEq, and_true] at e2
  obtain ⟨rfl, rfl⟩ := e2
  have g0 : (l ++ [91, 92, 93]).getD n 0 = 91 := by subst hn; simp [List.getD]
  have g1 : (l ++ [91, 92, 93]).getD (n + 1) 0 = 92 := by subst hn; simp [List.getD]
  have g2 : (l ++ [91, 92, 93]).getD (n + 2) 0 = 93 := by subst hn; simp [List.getD]
  have c0 := hcs n (by omega)
  have c1 := hcs (n + 1) (by omega)
  have c2 := hcs (n + 2) (by omega)
  rw [g0] at c0
  rw [g1] at c1
  rw [g2] at c2
  have QA : Hid _ := alike_any (some ⟨g, o, none⟩) b n n c cb l l w hn hn (by have := hs.part0 n (by rw [toI_len]; omega); rw [toI_take, List.take_append_of_le_length (by omega), List.take_of_length_le (by omega)] at this; exact this) hb h256 h256
  rw [decide_eq_true rfl] at QA
  have k0 : (0 : Int) ≤ (n : Int) := by omega
  have k1 : (n : Int) ≤ (c : Int) := by omega
  have k2 : ((n : Int)).toNat = n := by omega
  have w3 : IntKind.i64.wrap ((n : Int) + 3) = (n : Int) + 3 := by rw [IntKind.wrap_i64]; omega
  have w1 : IntKind.i64.wrap ((n : Int) + 1) = (n : Int) + 1 := by rw [IntKind.wrap_i64]; omega
  have w2 : IntKind.i64.wrap ((n : Int) + 2) = (n : Int) + 2 := by rw [IntKind.wrap_i64]; omega
  have j0 : (n : Int) < ((n + 3 : Nat) : Int) := by omega
  have j1 : (n : Int) + 1 < ((n + 3 : Nat) : Int) := by omega
  have j2 : (n : Int) + 2 < ((n + 3 : Nat) : Int) := by omega
  have j3 : (0 : Int) ≤ (n : Int) + 1 := by omega
  have j4 : (0 : Int) ≤ (n : Int) + 2 := by omega
  have j5 : ((n : Int) + 1).toNat = n + 1 := by omega
  have j6 : ((n : Int) + 2).toNat = n + 2 := by omega
  have eq3 : (((n + 3 : Nat) : Int) == (n : Int) + 3) = true := by simp
  clear hn hs hb h256 hcs hl e1 g0 g1 g2
  go_enter Tryd.func26, Tryd.ntmps26
  go_wp2_with fail
  refine Calls.mono QA.out ?_
  rintro e w' ⟨rfl, rfl⟩
  go_wp2
  go_ret
  exact ⟨rfl, rfl⟩
end Go.Proofs.YtdinhgfkpjaipaaDoor
namespace Go.Proofs.YtdinhgfkpjaipaaDoor
open Go.RowKit
open I4 (H4)

theorem flat_small (l : List (Int × List Nat)) (h : l.all I4.okO = true) : (I4.flatI l).length ≤ 40 * l.length := by
  induction l with
  | nil => simp [I4.flatI, I4.flatO]
  | cons o l ih =>
    simp only [List.all_cons, Bool.and_eq_true] at h
    have h1 := ih h.2
    have h2 : o.2.length ≤ 38 := by have := h.1; simp only [I4.okO, Bool.and_eq_true, decide_eq_true_eq] at this; exact this.2
    unfold I4.flatI at h1 ⊢
    rw [List.map_cons, I4.flatO_cons, List.length_cons]
    have : (I4.natO o).2.length = o.2.length := rfl
    omega
/-- the state of the first loop -/
structure RpS (w : World) (os : List OpV) (v : Value) (k : Nat) (wr : World) : Prop where
  own : wr.ownsRow w.heap.size 5 1 v (I4.flatI ((vals os).take k)).length ((toI (I4.flatI ((vals os).take k))).map (Value.int .u8))
  ok : ((vals os).take k).all I4.okO = true
  bel : Below w.heap.size w wr
theorem RpS.small {w wr : World} {os : List OpV} {v : Value} {k : Nat} (h : RpS w os v k wr) : (I4.flatI ((vals os).take k)).length ≤ 40 * k := by
  have := flat_small _ h.ok
  have h2 : ((vals os).take k).length ≤ k := by rw [List.length_take]; omega
  omega
/-- the state of the second loop -/
structure RqS (w : World) (F : List Nat) (v : Value) (z : Nat) (wr : World) : Prop where
  own : wr.ownsRow w.heap.size 5 1 v (F.length + z) ((toI (F ++ List.replicate z 0)).map (Value.int .u8))
  bel : Below w.heap.size w wr
  zl : z ≤ (4 - F.length % 4) % 4
def lenV : Value → Nat
  | .slice _ n _ => n
  | _ => 0
/-- what it answers -/
def RPut (w : World) (l : List (Int × List Nat)) (e : Ending) (w' : World) : Prop :=
  (I4.putOk l = true ∧ ∃ v, e = .returned (.tuple #[v, .int .i64 0]) ∧ w'.ownsRow w.heap.size 5 1 v (I4.putO l).length ((toI (I4.putO l)).map (Value.int .u8))) ∨ (I4.putOk l = false ∧ e = .returned (.tuple #[.slice none 0 0, .int .i64 65]))
set_option maxHeartbeats 6400000 in
set_option maxRecDepth 100000 in
theorem rput_any (la : Option Addr) (n cap : Nat) (os : List OpV) (w : World) (hn : os.length = n) (ho : OptsAt w la os) (hb : n ≤ 1048576) (hd : ∀ o ∈ os, o.d.length ≤ 1048576) :
    Calls Tryd.prog 97 #[.slice la n cap] w fun e w' => Below w.heap.size w w' ∧ RPut w (vals os) e w' := by
  obtain ⟨i0, hi, hz0, hz1, hz2⟩ := info_parts Tryd.infoByte
  have HN : Hid (os.length = n) := hn
  have HO : Hid (OptsAt w la os) := ho
  have HD : Hid (∀ o ∈ os, o.d.length ≤ 1048576) := hd
  have HS0 : Hid (RpS w os (.slice none 0 0) 0 w) := ⟨by simp [I4.flatI, I4.flatO, toI]; exact World.ownsRow_nil _ _ _ _, by simp, Below.refl _ _⟩
  clear hn ho hd
  go_enter Tryd.func97, Tryd.ntmps97
  go_wp2
  go_loopw [4, 5] (fun l ix wr => ∃ (k : Nat) (v : Value), v = l ∧ ix = .int .i64 k ∧ k ≤ n ∧ Hid (RpS w os v k wr)) (fun _ ix _ => n - (intOf ix).toNat)
  case atStart => exact ⟨0, _, rfl, rfl, Nat.zero_le _, HS0⟩
  case round =>
    obtain ⟨k, v, rfl, rfl, hk, HS⟩ := hrel
    by_cases hlt : k < n
    · obtain ⟨o, hok⟩ : ∃ o, os[k]? = some o := ⟨_, List.getElem?_eq_getElem (by rw [HN.out]; exact hlt)⟩
      obtain ⟨b1, o1, rfl, hl1, ok1, c10, c11⟩ := HO.out.at k o hok
      have hdl := HD.out o (List.mem_of_getElem? hok)
      obtain ⟨kd, hkd⟩ : ∃ kd, kd = o.k := ⟨_, rfl⟩
      obtain ⟨D, hDD⟩ : ∃ D, D = o.d.length := ⟨_, rfl⟩
      rw [← hkd] at c10
      rw [← hDD] at c11 hdl
      have F10 : Hid (∀ x, Below w.heap.size w x → x.cell? ⟨b1, o1 + k * 2, none⟩ = some (.int .i64 kd)) := fun x hx => (hx.cell (p := ⟨b1, o1 + k * 2, none⟩) hl1).trans c10
      have F11 : Hid (∀ x, Below w.heap.size w x → x.cell? ⟨b1, o1 + k * 2 + 1, none⟩ = some (.slice o.a D o.c)) := fun x hx => (hx.cell (p := ⟨b1, o1 + k * 2 + 1, none⟩) hl1).trans c11
      have HSG : Hid (∀ x, Below w.heap.size w x → Seg .u8 x o.a (toI o.d)) := fun x hx => ok1.seg.old hx
      have HVO : Hid (os[k]? = some o) := hok
      have HKD : Hid (kd = o.k) := hkd
      have HDD : Hid (D = o.d.length) := hDD
      have k0 : (0 : Int) ≤ (k : Int) := by omega
      have k1 : (k : Int) < (n : Int) := by omega
      have k2 : ((k : Int)).toNat = k := by omega
      have wk : IntKind.i64.wrap ((k : Int) + 1) = (k : Int) + 1 := by rw [IntKind.wrap_i64]; omega
      have g10 := F10.out wr HS.out.bel
      have g11 := F11.out wr HS.out.bel
      clear hok ok1 c10 c11 hkd hDD hl1
      by_cases ha : kd < 2
      · have HF : Hid (I4.putOk (vals os) = false) := put_bad1 os k o HVO.out (okO_false o (.inl (by rw [← HKD.out]; exact ha)))
        go_wp2
        go_ret2
        exact ⟨HS.out.bel, .inr ⟨HF.out, rfl⟩⟩
      by_cases hb2 : 255 < kd
      · have HF : Hid (I4.putOk (vals os) = false) := put_bad1 os k o HVO.out (okO_false o (.inr (.inl (by rw [← HKD.out]; exact hb2))))
        go_wp2
        go_ret2
        exact ⟨HS.out.bel, .inr ⟨HF.out, rfl⟩⟩
      by_cases hc : 38 < D
      · have HF : Hid (I4.putOk (vals os) = false) := put_bad1 os k o HVO.out (okO_false o (.inr (.inr (by rw [← HDD.out]; exact hc))))
        have hc' : (38 : Int) < (D : Int) := by omega
        clear hc
        go_wp2
        go_ret2
        exact ⟨HS.out.bel, .inr ⟨HF.out, rfl⟩⟩
      have hc' : ¬ (38 : Int) < (D : Int) := by omega
      obtain ⟨m, hm⟩ : ∃ m : Nat, kd = (m : Int) := ⟨kd.toNat, by omega⟩
      have HM : Hid (kd = (m : Int)) := hm
      have u1 : IntKind.u8.wrap kd = kd := by rw [IntKind.wrap_u8]; omega
      have u2 : IntKind.u8.wrap ((D : Int) + 2) = (D : Int) + 2 := by rw [IntKind.wrap_u8]; omega
      have w2 : IntKind.i64.wrap ((D : Int) + 2) = (D : Int) + 2 := by rw [IntKind.wrap_i64]; omega
      have HOK : Hid (I4.okO o.val = true) := okO_true o (by rw [← HKD.out]; omega) (by rw [← HKD.out]; omega) (by rw [← HDD.out]; omega)
      obtain ⟨L, hL⟩ : ∃ L, L = (I4.flatI ((vals os).take k)).length := ⟨_, rfl⟩
      have hown : wr.ownsRow w.heap.size 5 1 v L ((toI (I4.flatI ((vals os).take k))).map (Value.int .u8)) := by rw [hL]; exact HS.out.own
      have hLs : L ≤ 41943040 := by have := HS.out.small; omega
      have HL : Hid (L = (I4.flatI ((vals os).take k)).length) := hL
      have hsz : w.heap.size ≤ wr.heap.size := HS.out.bel.size
      have hDl : D ≤ 38 := by omega
      clear hc hL hm
      go_upto_region 8 with fail
      go_wp2_with (first | (at_builtin; refine append_split_seg rfl (.tmp 37) (.tmp 47) 26 rfl w.heap.size 5 i0 (.int .u8 0) 1 Tryd.underlying26 hi hz0 hz1 hz2 rfl v L _ rfl (hown.alloc _) .u8 (some ⟨wr.heap.size, 0, none⟩) 2 2 [kd, (D : Int) + 2] rfl rfl (seg_newz wr [kd, (D : Int) + 2] _) (by unfold maxLen; omega) (by omega) (by simp; omega) ?_))
      intro v2 wx ho2 hq2 hg2
      have bA : Below w.heap.size w (wr.alloc (.cells #[.int .u8 kd, .int .u8 ((D : Int) + 2)] 5)) := HS.out.bel.alloc hsz _
      have bX : Below w.heap.size w wx := bA.grown hg2 (by simp; omega) (fun q hq => (hown.lt q hq).1)
      have HO2 : Hid (wx.ownsRow w.heap.size 5 1 v2 (L + 2) ((toI (I4.flatI ((vals os).take k))).map (Value.int .u8) ++ [.int .u8 kd, .int .u8 ((D : Int) + 2)])) := ho2
      have hszx : w.heap.size ≤ wx.heap.size := bX.size
      have g11x := F11.out wx bX
      have hsgx := HSG.out wx bX
      have HBX : Hid (Below w.heap.size w wx) := bX
      have HOKK : Hid (((vals os).take k).all I4.okO = true) := HS.out.ok
      have HDL2 : Hid (o.d.length = D) := HDD.out.symm
      clear hown hsz ho2 hq2 hg2 bA bX g10 g11 HS
      go_wp2_with (first | (at_builtin; refine append_split_seg rfl (.tmp 49) (.tmp 54) 26 rfl w.heap.size 5 i0 (.int .u8 0) 1 Tryd.underlying26 hi hz0 hz1 hz2 rfl v2 (L + 2) _ rfl HO2.out .u8 o.a D o.c (toI o.d) rfl (by rw [toI_len]; exact HDL2.out) hsgx (by unfold maxLen; omega) (by omega) hszx ?_))
      intro v3 wy ho3 hq3 hg3
      have HS3 : Hid (RpS w os v3 (k + 1) wy) := by
        have e1 : I4.flatI ((vals os).take (k + 1)) = I4.flatI ((vals os).take k) ++ (m :: (D + 2) :: o.d) := by
          rw [vals_take os k o HVO.out, flatI_snoc]
          have : o.val.1.toNat = m := by show o.k.toNat = m; rw [← HKD.out, HM.out]; omega
          have h2 : o.val.2 = o.d := rfl
          rw [this, h2, HDL2.out]
        refine ⟨?_, ?_, HBX.out.grown hg3 hszx (fun q hq => (HO2.out.lt q hq).1)⟩
        · rw [e1, List.length_append, ← HL.out]
          have e2 : L + (m :: (D + 2) :: o.d).length = L + 2 + D := by rw [List.length_cons, List.length_cons, HDL2.out]; omega
          have e3 : (toI (I4.flatI ((vals os).take k) ++ (m :: (D + 2) :: o.d))).map (Value.int .u8) = (toI (I4.flatI ((vals os).take k))).map (Value.int .u8) ++ [.int .u8 kd, .int .u8 ((D : Int) + 2)] ++ (toI o.d).map (Value.int .u8) := by
            simp [toI, HM.out]
          rw [e2, e3]
          simpa using ho3
        · rw [vals_take os k o HVO.out, List.all_append, HOKK.out]
          simp [HOK.out]
      clear ho3 hq3 hg3 hsgx
      go_wp2
      go_roundw
      case rel => exact ⟨k + 1, v3, rfl, by go_num, by omega, HS3⟩
      case measure => simp [intOf]; omega
    · have hkn : k = n := by omega
      subst hkn
      have hni : ¬ ((k : Int) < (k : Int)) := by omega
      have htk : (vals os).take k = vals os := List.take_of_length_le (by simp [vals, HN.out])
      obtain ⟨F, hF⟩ : ∃ F, F = I4.flatI (vals os) := ⟨_, rfl⟩
      have HF : Hid (F = I4.flatI (vals os)) := hF
      have HALL : Hid ((vals os).all I4.okO = true) := by have := HS.out.ok; rw [htk] at this; exact this
      have hFl : F.length ≤ 41943040 := by have h1 := HS.out.small; rw [htk, ← hF] at h1; omega
      have HQ0 : Hid (RqS w F v 0 wr) := by
        refine ⟨?_, HS.out.bel, Nat.zero_le _⟩
        have := HS.out.own
        rw [htk, ← hF] at this
        simpa using this
      clear hlt HS htk hF
      go_wp2
      go_loopw [4] (fun l wr => ∃ (z : Nat) (v : Value), v = l ∧ Hid (RqS w F v z wr)) (fun l _ => 41943044 - lenV l)
      case atStart => exact ⟨0, v, rfl, HQ0⟩
      case round =>
        obtain ⟨z, v, rfl, HQ⟩ := hrel
        obtain ⟨va, vc, rfl⟩ := owns_shape HQ.out.own
        have hzl := HQ.out.zl
        have HZL : Hid (z ≤ (4 - F.length % 4) % 4) := hzl
        obtain ⟨G, hG⟩ : ∃ G, G = F.length + z := ⟨_, rfl⟩
        have HG : Hid (G = F.length + z) := hG
        have hGs : G ≤ 41943043 := by omega
        have hown : wr.ownsRow w.heap.size 5 1 (.slice va G vc) G ((toI (F ++ List.replicate z 0)).map (Value.int .u8)) := by rw [hG]; exact HQ.out.own
        have hsz : w.heap.size ≤ wr.heap.size := HQ.out.bel.size
        rw [← hG]
        by_cases hz : G % 4 = 0
        · have q1 : ((G : Int) % 4 != 0) = false := by simp; omega
          have hzz : z = (4 - F.length % 4) % 4 := by omega
          have HPAD : Hid (F ++ List.replicate z 0 = I4.pad4 F) := by show _ = _; unfold I4.pad4; rw [hzz]
          have HOW : Hid (wr.ownsRow w.heap.size 5 1 (.slice va G vc) G ((toI (I4.pad4 F)).map (Value.int .u8))) := by rw [← HPAD.out]; exact hown
          have HPL : Hid ((I4.pad4 F).length = G) := by show _ = _; rw [← HPAD.out, HG.out]; simp
          have HFG : Hid (F.length ≤ G ∧ (G ≤ 40 ↔ F.length ≤ 40)) := by
            refine ⟨by omega, ⟨fun h => by omega, fun h => by omega⟩⟩
          clear hz hzl hzz hG hown
          by_cases h40 : 40 < G
          · have c40 : (40 : Int) < (G : Int) := by omega
            have HNO : Hid (I4.putOk (vals os) = false) := by
              show _ = _
              unfold I4.putOk
              rw [decide_eq_false (by rw [← HF.out]; have := HFG.out; omega), Bool.and_false]
            clear h40
            go_wp2
            go_ret2
            exact ⟨HQ.out.bel, .inr ⟨HNO.out, rfl⟩⟩
          · have c40 : ¬ (40 : Int) < (G : Int) := by omega
            have HYES : Hid (I4.putOk (vals os) = true ∧ I4.putO (vals os) = I4.pad4 F) := by
              have h1 : I4.putOk (vals os) = true := by
                unfold I4.putOk
                rw [HALL.out, decide_eq_true (by rw [← HF.out]; have := HFG.out; omega)]
                rfl
              refine ⟨h1, ?_⟩
              unfold I4.putO
              rw [if_pos h1, HF.out]
            clear h40
            go_wp2
            go_ret2
            exact ⟨HQ.out.bel, .inl ⟨HYES.out.1, _, rfl, by rw [HYES.out.2, HPL.out]; exact HOW.out⟩⟩
        · have q1 : ((G : Int) % 4 != 0) = true := by rw [bne_iff_ne]; omega
          have hz1 : z + 1 ≤ (4 - F.length % 4) % 4 := by omega
          have HZ1 : Hid (z + 1 ≤ (4 - F.length % 4) % 4) := hz1
          have HQW : Hid (wr.ownsRow w.heap.size 5 1 (.slice va G vc) G ((toI (F ++ List.replicate z 0)).map (Value.int .u8))) := hown
          clear hz hzl hG hz1 hown
          go_wp2_with (first | (at_builtin; refine append_split_seg rfl (.tmp 60) (.tmp 61) 26 rfl w.heap.size 5 i0 (.int .u8 0) 1 Tryd.underlying26 hi hz0 hz1 hz2 rfl (.slice va G vc) G _ rfl (HQW.out.alloc _) .u8 (some ⟨wr.heap.size, 0, none⟩) 1 1 [0] rfl rfl (seg_newz wr [0] _) (by unfold maxLen; omega) (by omega) (by simp; omega) ?_))
          intro v3 wy ho3 hq3 hg3
          have bA : Below w.heap.size w (wr.alloc (.cells #[.int .u8 0] 5)) := HQ.out.bel.alloc hsz _
          have HS3 : Hid (RqS w F v3 (z + 1) wy) := by
            refine ⟨?_, bA.grown hg3 (by simp; omega) (fun q hq => (HQW.out.lt q hq).1), HZ1.out⟩
            have e1 : F.length + (z + 1) = G + 1 := by rw [HG.out]; omega
            have e3 : (toI (F ++ List.replicate (z + 1) 0)).map (Value.int .u8) = (toI (F ++ List.replicate z 0)).map (Value.int .u8) ++ [.int .u8 0] := by
              rw [List.replicate_succ', ← List.append_assoc]
              simp [toI]
            rw [e1, e3]
            exact ho3
          have HLV : Hid (lenV v3 = G + 1) := by obtain ⟨a', c', rfl⟩ := owns_shape ho3; rfl
          clear ho3 hq3 hg3 bA
          go_wp2
          go_roundw
          case rel => exact ⟨z + 1, v3, rfl, HS3⟩
          case measure => rw [HLV.out]; show 41943044 - (G + 1) < 41943044 - G; omega
end Go.Proofs.YtdinhgfkpjaipaaDoor
namespace Go.Proofs.YtdinhgfkpjaipaaDoor
open Go.RowKit
open I4 (H4)

set_option maxHeartbeats 800000 in
set_option maxRecDepth 100000 in
theorem add_any (B : Nat) (v : Value) (L m : Nat) (l : List Nat) (w : World) (hl : l.length = L) (ho : w.ownsRow B 5 1 v L ((toI l).map (Value.int .u8))) (hL : L ≤ 1048576) (hm : m ≤ 65535) (hB : B ≤ w.heap.size) :
    Calls Tryd.prog 100 #[v, .int .i64 m] w fun e w' => ∃ v', e = .returned v' ∧ w'.ownsRow B 5 1 v' (L + 2) ((toI (l ++ [m / 256, m % 256])).map (Value.int .u8)) ∧ Ch (fun q => v.ownBlock = some q) w w' ∧ (∀ q, v'.ownBlock = some q → v.ownBlock = some q ∨ w.heap.size ≤ q) := by
  obtain ⟨i0, hi, hz0, hz1, hz2⟩ := info_parts Tryd.infoByte
  have HO : Hid (w.ownsRow B 5 1 v L ((toI l).map (Value.int .u8))) := ho
  have HL : Hid (l.length = L) := hl
  have u1 : IntKind.u8.wrap ((m : Int) / 256) = (m : Int) / 256 := by rw [IntKind.wrap_u8]; omega
  have u2 : IntKind.u8.wrap ((m : Int) % 256) = (m : Int) % 256 := by rw [IntKind.wrap_u8]; omega
  clear ho hl
  go_enter Tryd.func100, Tryd.ntmps100
  go_wp2_with (first | (at_builtin; refine append_split_seg rfl (.tmp 5) (.tmp 12) 26 rfl B 5 i0 (.int .u8 0) 1 Tryd.underlying26 hi hz0 hz1 hz2 rfl v L _ rfl (HO.out.alloc _) .u8 (some ⟨w.heap.size, 0, none⟩) 2 2 [(m : Int) / 256, (m : Int) % 256] rfl rfl (seg_newz w [(m : Int) / 256, (m : Int) % 256] _) (by unfold maxLen; omega) (by omega) (by simp; omega) ?_))
  intro v' w' ho' hq hg
  have HO' : Hid (w'.ownsRow B 5 1 v' (L + 2) ((toI (l ++ [m / 256, m % 256])).map (Value.int .u8))) := by
    have e : (toI (l ++ [m / 256, m % 256])).map (Value.int .u8) = (toI l).map (Value.int .u8) ++ ([(m : Int) / 256, (m : Int) % 256] : List Int).map (Value.int .u8) := by simp [toI]
    rw [e]; exact ho'
  have HC : Hid (Ch (fun q => v.ownBlock = some q) w w') := (Ch.ofBelow (S := fun q => v.ownBlock = some q) ((Below.refl w.heap.size w).alloc (Nat.le_refl _) (.cells #[.int .u8 ((m : Int) / 256), .int .u8 ((m : Int) % 256)] 5))).trans (Ch.ofGrown hg) (fun _ _ h => h)
  have HQ : Hid (∀ q, v'.ownBlock = some q → v.ownBlock = some q ∨ w.heap.size ≤ q) := fun q h => by
    rcases hq q h with h1 | h1
    · exact .inl h1
    · right; omega
  clear ho' hq hg
  go_wp2
  go_ret
  exact ⟨_, rfl, HO'.out, HC.out, HQ.out⟩
set_option maxHeartbeats 3200000 in
set_option maxRecDepth 100000 in
theorem rcheck6_any (h : H4) (la : Option Addr) (ln lc : Nat) (os : List OpV) (da : Option Addr) (n c : Nat) (w : World) (k : H4Ok w h la ln lc os da n c) (sm : H4Sm ln os n) :
    Calls Tryd.prog 96 #[.agg (h4C h (.slice la ln lc) (.slice da n c))] w fun e w' => e = .returned (.int .i64 (I4.chk h : Nat)) ∧ Below w.heap.size w w' := by
  obtain ⟨W, hW⟩ : ∃ W, W = w.alloc (.cells (h4C h (.slice la ln lc) (.slice da n c)) 28) := ⟨_, rfl⟩
  obtain ⟨O, hO⟩ : ∃ O, O = w.heap.size := ⟨_, rfl⟩
  have bel : Below w.heap.size w W := by rw [hW]; exact (Below.refl _ _).alloc (Nat.le_refl _) _
  have box : H4At W O h (.slice la ln lc) (.slice da n c) := by rw [hW, hO]; exact h4At_new _ _ _ _
  have c0 := box.c0
  have c1 := box.c1
  have c4 := box.c4
  have c5 := box.c5
  have c6 := box.c6
  have SRC : Hid _ := box.src
  have HB : Hid (H4At W O h (.slice la ln lc) (.slice da n c)) := box
  obtain ⟨C, hC⟩ : ∃ C, C = h4C h (.slice la ln lc) (.slice da n c) := ⟨_, rfl⟩
  have HW : Hid (w.alloc (.cells C 28) = W) := by rw [hC]; exact hW.symm
  have HO : Hid (w.heap.size = O) := hO.symm
  rw [← hC]
  obtain ⟨R, hR⟩ : ∃ R, R = I4.chk h := ⟨_, rfl⟩
  rw [← hR]
  have HR : Hid (R = I4.chk h) := hR
  have HK : Hid (H4Ok w h la ln lc os da n c) := k
  have HSM : Hid (H4Sm ln os n) := sm
  clear hW hC hO box hR k sm
  go_enter Tryd.func96, Tryd.ntmps96
  go_upto_region 1 with fail
  rw [HW.out, HO.out]
  go_wp2_with fail
  refine Calls.mono (out_any h.tos 255 W) ?_
  rintro e w' ⟨rfl, rfl⟩
  cases b0 : I4.within h.tos 255 with
  | false =>
    have HRf : Hid (R = 68) := by show _ = _; rw [HR.out]; simp [I4.chk, I4.fieldsOk, b0]
    go_wp2
    go_ret
    exact ⟨by rw [HRf.out]; rfl, bel⟩
  | true =>
  go_wp2_with fail
  refine Calls.mono (out_any h.id 65535 W) ?_
  rintro e w' ⟨rfl, rfl⟩
  cases b1 : I4.within h.id 65535 with
  | false =>
    have HRf : Hid (R = 68) := by show _ = _; rw [HR.out]; simp [I4.chk, I4.fieldsOk, b1]
    go_wp2
    go_ret
    exact ⟨by rw [HRf.out]; rfl, bel⟩
  | true =>
  go_wp2_with fail
  refine Calls.mono (out_any h.off 65528 W) ?_
  rintro e w' ⟨rfl, rfl⟩
  cases b2 : I4.within h.off 65528 with
  | false =>
    have HRf : Hid (R = 68) := by show _ = _; rw [HR.out]; simp [I4.chk, I4.fieldsOk, b2]
    go_wp2
    go_ret
    exact ⟨by rw [HRf.out]; rfl, bel⟩
  | true =>
  have hof : 0 ≤ h.off ∧ h.off ≤ 65528 := by simpa [I4.within] using b2
  obtain ⟨hof0, hof1⟩ := hof
  cases b3 : decide (h.off % 8 = 0) with
  | false =>
    have e8 : (h.off % 8 != 0) = true := by rw [bne_iff_ne]; exact of_decide_eq_false b3
    have HRf : Hid (R = 68) := by show _ = _; rw [HR.out]; simp only [I4.chk, I4.fieldsOk, b3, Bool.and_false, Bool.false_and, Bool.not_false, if_true]
    go_wp2
    go_ret
    exact ⟨by rw [HRf.out]; rfl, bel⟩
  | true =>
  have e8 : (h.off % 8 != 0) = false := by rw [bne_eq_false_iff_eq]; exact of_decide_eq_true b3
  go_wp2_with fail
  refine Calls.mono (out_any h.ttl 255 W) ?_
  rintro e w' ⟨rfl, rfl⟩
  cases b4 : I4.within h.ttl 255 with
  | false =>
    have HRf : Hid (R = 68) := by show _ = _; rw [HR.out]; simp [I4.chk, I4.fieldsOk, b4]
    go_wp2
    go_ret
    exact ⟨by rw [HRf.out]; rfl, bel⟩
  | true =>
  go_wp2_with fail
  refine Calls.mono (out_any h.proto 255 W) ?_
  rintro e w' ⟨rfl, rfl⟩
  cases b5 : I4.within h.proto 255 with
  | false =>
    have HRf : Hid (R = 68) := by show _ = _; rw [HR.out]; simp [I4.chk, I4.fieldsOk, b5]
    go_wp2
    go_ret
    exact ⟨by rw [HRf.out]; rfl, bel⟩
  | true =>
  go_wp2_with (first | (refine wpList_load_src _ rfl O 7 h.sv h.sx rfl SRC.out rfl ?_))
  refine Calls.mono (four_any h.sv h.sx W HK.out.sx) ?_
  rintro e w1 ⟨rfl, hb1⟩
  have HB1 : Hid (H4At w1 O h (.slice la ln lc) (.slice da n c)) := H4At.below HB.out hb1
  have DST : Hid _ := HB1.out.dst
  have bel1 := bthen bel hb1
  clear hb1 c0 c1 c4 c5 c6
  cases b6 : I4.four h.sv h.sx with
  | false =>
    have HRf : Hid (R = 68) := by show _ = _; rw [HR.out]; simp [I4.chk, I4.fieldsOk, b6]
    go_wp2
    go_ret
    exact ⟨by rw [HRf.out]; rfl, bel1⟩
  | true =>
  go_wp2_with (first | (refine wpList_load_src _ rfl O 24 h.dv h.dx rfl DST.out rfl ?_))
  refine Calls.mono (four_any h.dv h.dx w1 HK.out.dx) ?_
  rintro e w2 ⟨rfl, hb2⟩
  have HB2 : Hid (H4At w2 O h (.slice la ln lc) (.slice da n c)) := H4At.below HB1.out hb2
  have bel2 := bthen bel1 hb2
  clear hb2
  cases b7 : I4.four h.dv h.dx with
  | false =>
    have HRf : Hid (R = 68) := by show _ = _; rw [HR.out]; simp [I4.chk, I4.fieldsOk, b7]
    go_wp2
    go_ret
    exact ⟨by rw [HRf.out]; rfl, bel2⟩
  | true =>
  have HF : Hid (I4.fieldsOk h = true) := by show _ = _; simp only [I4.fieldsOk, b0, b1, b2, b3, b4, b5, b6, b7, Bool.and_self]
  have HR2 : Hid (R = if !I4.putOk h.os then 65 else if 65535 < 20 + (I4.putO h.os).length + h.data.length then 63 else if !I4.fragOk h.mf h.off h.data.length then 66 else 0) := by show _ = _; rw [HR.out, I4.chk, HF.out]; simp
  have d41 := HB2.out.c41
  have QP : Hid _ := rput_any la ln lc os w2 HK.out.ol (HK.out.old bel2).opts HSM.out.ln HSM.out.d
  rw [← HK.out.hos] at QP
  clear b0 b1 b2 b3 b4 b5 b6 b7 e8 HR HF bel1
  go_wp2_with fail
  refine Calls.mono QP.out ?_
  rintro e w3 ⟨hb3, hres⟩
  have bel3 := bthen bel2 hb3
  have HB3 : Hid (H4At w3 O h (.slice la ln lc) (.slice da n c)) := H4At.below HB2.out hb3
  clear hb3 QP d41
  rcases hres with ⟨hp, v, rfl, hown⟩ | ⟨hp, rfl⟩
  case inr =>
    have HRf : Hid (R = 65) := by show _ = _; rw [HR2.out, hp]; rfl
    clear hp
    go_wp2
    go_ret
    exact ⟨by rw [HRf.out]; rfl, bel3⟩
  have HP : Hid (I4.putOk h.os = true) := hp
  obtain ⟨va, vc, rfl⟩ := owns_shape hown
  have hL := I4.put_len h.os
  obtain ⟨L, hLL⟩ : ∃ L, L = (I4.putO h.os).length := ⟨_, rfl⟩
  rw [← hLL] at hL ⊢
  have hL40 : L ≤ 40 := hL.1
  have hn := HSM.out.n
  have HDL : Hid (h.data.length = n) := HK.out.dl
  have HR3 : Hid (R = if 65535 < 20 + L + n then 63 else if !I4.fragOk h.mf h.off n then 66 else 0) := by show _ = _; rw [HR2.out, HP.out, HDL.out, hLL]; rfl
  have d42 := HB3.out.c42
  have d3 := HB3.out.c3
  have d4 := HB3.out.c4
  have wa : IntKind.i64.wrap (20 + (L : Int)) = 20 + (L : Int) := by rw [IntKind.wrap_i64]; omega
  have wb : IntKind.i64.wrap (20 + (L : Int) + (n : Int)) = 20 + (L : Int) + (n : Int) := by rw [IntKind.wrap_i64]; omega
  clear hp hown hL hLL HR2
  by_cases hbig : 65535 < 20 + L + n
  · have q : (65535 : Int) < 20 + (L : Int) + (n : Int) := by omega
    have HRf : Hid (R = 63) := by show _ = _; rw [HR3.out, if_pos hbig]
    clear hbig
    go_wp2
    go_ret
    exact ⟨by rw [HRf.out]; rfl, bel3⟩
  have q : ¬ (65535 : Int) < 20 + (L : Int) + (n : Int) := by omega
  have HR4 : Hid (R = if !I4.fragOk h.mf h.off n then 66 else 0) := by show _ = _; rw [HR3.out, if_neg hbig]
  have QF : Hid _ := frag_any h.mf h.off n w3 hof0 hof1 (by omega)
  clear hbig HR3
  go_wp2_with fail
  refine Calls.mono QF.out ?_
  rintro e w4 ⟨rfl, rfl⟩
  cases b8 : I4.fragOk h.mf h.off n with
  | false =>
    have HRf : Hid (R = 66) := by show _ = _; rw [HR4.out, b8]; rfl
    go_wp2
    go_ret
    exact ⟨by rw [HRf.out]; rfl, bel3⟩
  | true =>
    have HRf : Hid (R = 0) := by show _ = _; rw [HR4.out, b8]; rfl
    go_wp2
    go_ret
    exact ⟨by rw [HRf.out]; rfl, bel3⟩
end Go.Proofs.YtdinhgfkpjaipaaDoor
