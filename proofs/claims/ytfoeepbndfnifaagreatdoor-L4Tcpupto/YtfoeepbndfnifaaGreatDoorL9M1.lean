/-
  The document's own number, of layer 9.
-/
/-
  The document's own Sum, Check and Good (SRef, over I4Sum).
-/
/-
  The document's own Check (R6Sum's, over L9RSum).
-/
/-
  The document's own fit and good, of layer 9.
-/
/-
  Bytes with three marks behind them, whether they still stand; appends to full windows; bytes turned over.
-/
/-
  The document's own answer of layer 6: PutOptions.
-/
/-
  The document's own out, length, add, tells, of layer 9.
-/
import Derived.Test.YtfoeepbndfnifaaGreatDoorL9M0
import Derived.Test.YtfoeepbndfnifaaGreatDoorI8Sum
import Derived.Deep.Onto
import Derived.Test.YtfoeepbndfnifaaGreatDoorI4Bld
import Derived.Test.YtfoeepbndfnifaaGreatDoorL9Spec
import Derived.Test.YtfoeepbndfnifaaGreatDoorPSplit
import Derived.Deep.DeepCutAuto
namespace Go.Proofs.YtfoeepbndfnifaaGreatDoor
open Go.RowKit
open L4 (U9 T9)

/-- the number that stands there, the first byte greatest -/
def numB (bs : List Nat) (p : Nat) : Nat → Nat
  | 0 => 0
  | k + 1 => 256 * numB bs p k + bs.getD (p + k) 0
theorem numB_lt (bs : List Nat) (p k : Nat) (h : ∀ x ∈ bs, x < 256) : numB bs p k < 256 ^ k := by
  induction k with
  | zero => simp [numB]
  | succ k ih =>
    have := I4.getD_lt bs h (p + k)
    rw [numB, Nat.pow_succ]
    omega
set_option maxHeartbeats 1600000 in
set_option maxRecDepth 100000 in
theorem rnum_any (a : Option Addr) (n cap p m : Nat) (bs : List Nat) (w : World) (hd : DOk w bs a n cap) (hp : p + m ≤ n) (hm : m ≤ 4) :
    Calls Tryz.prog 68 #[.slice a n cap, .int .i64 (p : Int), .int .i64 (m : Int)] w fun e w' => e = .returned (.int .i64 ((numB bs p m : Nat) : Int)) ∧ w = w' := by
  have HD : Hid (DOk w bs a n cap) := hd
  have hn := hd.sm
  clear hd
  go_enter Tryz.func68, Tryz.ntmps68
  go_wp2
  go_loopw [7, 8] (fun vx ix wr => ∃ k : Nat, k ≤ m ∧ ix = .int .i64 k ∧ vx = .int .i64 ((numB bs p k : Nat) : Int) ∧ w = wr) (fun _ ix _ => m - (intOf ix).toNat)
  case atStart => exact ⟨0, Nat.zero_le _, rfl, rfl, rfl⟩
  case round =>
    obtain ⟨k, hk, rfl, rfl, rfl⟩ := hrel
    by_cases hlt : k < m
    · obtain ⟨b, off, rfl, hc⟩ := seg_at HD.out.seg (p + k) (by rw [HD.out.dl]; omega)
      have cx := hc (p + k) (by rw [HD.out.dl]; omega)
      have x256 := I4.getD_lt bs HD.out.d256 (p + k)
      have hv := numB_lt bs p k HD.out.d256
      have hv4 : (256 : Nat) ^ k ≤ 16777216 := by
        have h4 : k = 0 ∨ k = 1 ∨ k = 2 ∨ k = 3 := by omega
        rcases h4 with rfl | rfl | rfl | rfl <;> decide
      have hs : numB bs p (k + 1) = 256 * numB bs p k + bs.getD (p + k) 0 := rfl
      obtain ⟨X, hX⟩ : ∃ X, X = numB bs p k := ⟨_, rfl⟩
      obtain ⟨z, hz⟩ : ∃ z, z = bs.getD (p + k) 0 := ⟨_, rfl⟩
      rw [← hX, ← hz] at hs
      rw [← hX] at hv
      rw [← hz] at cx x256
      rw [← hX]
      have HS : Hid (numB bs p (k + 1) = 256 * X + z) := hs
      obtain ⟨q, hq⟩ : ∃ q, q = p + k := ⟨_, rfl⟩
      rw [← hq] at cx
      have hX24 : X < 16777216 := by omega
      have wq : IntKind.i64.wrap ((p : Int) + (k : Int)) = (q : Int) := by rw [IntKind.wrap_i64]; omega
      have wq2 : (p : Int) + (k : Int) = (q : Int) := by omega
      have q0 : (0 : Int) ≤ (q : Int) := by omega
      have q1 : (q : Int) < (n : Int) := by omega
      have q2 : ((q : Int)).toNat = q := by omega
      have k1 : (k : Int) < (m : Int) := by omega
      have wX : IntKind.i64.wrap (256 * (X : Int)) = 256 * (X : Int) := by rw [IntKind.wrap_i64]; omega
      have wS : IntKind.i64.wrap (256 * (X : Int) + (z : Int)) = 256 * (X : Int) + (z : Int) := by rw [IntKind.wrap_i64]; omega
      have wz : IntKind.i64.wrap (z : Int) = (z : Int) := by rw [IntKind.wrap_i64]; omega
      have wk : IntKind.i64.wrap ((k : Int) + 1) = (k : Int) + 1 := by rw [IntKind.wrap_i64]; omega
      clear hs hX hz hq hc hv hv4
      go_wp2
      go_roundw
      case rel => exact ⟨k + 1, by omega, by go_num, by rw [HS.out]; go_num, trivial⟩
      case measure => simp [intOf]; omega
    · have ek : k = m := by omega
      have hni : ¬ ((k : Int) < (m : Int)) := by omega
      subst ek
      go_wp2
      go_ret
      exact ⟨rfl, rfl⟩
end Go.Proofs.YtfoeepbndfnifaaGreatDoor
namespace Go.Proofs.YtfoeepbndfnifaaGreatDoor
open Go.RowKit

theorem rfolded_any (n : Nat) (w : World) (h : n < 9223372036854775807) : Calls Tryz.prog 122 #[.int .i64 n] w fun e w' => e = .returned (.int .i64 ((S.fold n : Nat) : Int)) ∧ w = w' := by
  by_cases h0 : n = 0
  · subst h0
    go_enter Tryz.func122, Tryz.ntmps122
    go_wp2
    go_ret
    exact ⟨ret1 (by simp [S.fold]), rfl⟩
  · have h1 : ((n : Int) == 0) = false := by simp; omega
    go_enter Tryz.func122, Tryz.ntmps122
    go_wp2
    go_ret
    refine ⟨ret1 ?_, rfl⟩
    rw [S.fold, if_neg h0]
    omega

theorem wv_snoc (l : List Nat) (x : Nat) : S.wv false (l ++ [x]) = S.wv false l + (if l.length % 2 = 0 then 256 * x else x) := by
  rw [S.wv_append]
  by_cases h : l.length % 2 = 0
  · have : S.par false l.length = false := by simp [S.par, h]
    rw [this, if_pos h]
    simp [S.wv]
  · have : S.par false l.length = true := by simp [S.par, show l.length % 2 = 1 by omega]
    rw [this, if_neg h]
    simp [S.wv]

set_option maxHeartbeats 800000 in
theorem rsum_any (a : Option Addr) (n cap : Nat) (ps : List Part) (w : World) (hn : ps.length = n) (hps : Parts w a ps) (htot : (allB ps).length ≤ 1099511627776) (hn2 : n ≤ 9223372036854775807) :
    Calls Tryz.prog 116 #[.slice a n cap] w fun e w' => e = .returned (.int .i64 ((S.fold (S.wv false (allB ps)) : Nat) : Int)) ∧ w = w' := by
  subst hn
  obtain ⟨hcells, hok⟩ := hps
  have HT : Hid ((allB ps).length ≤ 1099511627776) := htot
  have h256 : ∀ x ∈ allB ps, x < 256 := allB_lt ps (fun p hp => (hok p hp).2.1)
  have H256 : Hid (∀ x ∈ allB ps, x < 256) := h256
  clear htot h256
  go_enter Tryz.func116, Tryz.ntmps116
  go_wp2
  go_loop [3, 4, 5] (fun at' t ix => ∃ k A T : Nat, k ≤ ps.length ∧ ix = .int .i64 k ∧ at' = .int .i64 A ∧ t = .int .i64 T ∧ A ≤ 1099511627776 ∧ T ≤ 71776119061217280 ∧ Hid (A = (allB (ps.take k)).length) ∧ Hid (T = S.wv false (allB (ps.take k)))) (fun _ _ ix => ps.length - (intOf ix).toNat)
  case atStart => exact ⟨0, 0, 0, Nat.zero_le _, rfl, rfl, rfl, by omega, by omega, by show _ = _; simp [allB], by show _ = _; simp [allB, S.wv]⟩
  case round =>
    obtain ⟨k, A, T, hk, rfl, rfl, rfl, hA, hT, HA, HTV⟩ := hrel
    by_cases hlt : k < ps.length
    · rcases hcells with hnil | ⟨b, off, rfl, hc⟩
      · rw [hnil] at hlt; simp at hlt
      have hcell := hc k hlt
      have hp := hok _ (List.getElem_mem hlt)
      have e1 := allB_take_succ ps k hlt
      have e2 := allB_take_le ps (k + 1)
      have hlt' : ∀ x ∈ allB (ps.take (k + 1)), x < 256 := fun x hx => H256.out x (by
          simp only [allB, List.mem_flatMap] at hx ⊢
          obtain ⟨p, hp, hx⟩ := hx
          exact ⟨p, List.mem_of_mem_take hp, hx⟩)
      obtain ⟨p, hpe⟩ : ∃ p, p = ps[k] := ⟨_, rfl⟩
      rw [← hpe] at hcell hp e1
      obtain ⟨pa, pc, l⟩ := p
      obtain ⟨hseg, hl256, hlc, hpc⟩ := hp
      simp only [Part.val] at hcell hseg hl256 hlc hpc e1
      obtain ⟨pre, hpre⟩ : ∃ pre, pre = allB (ps.take k) := ⟨_, rfl⟩
      rw [← hpre] at HA HTV e1
      rw [e1] at hlt' e2
      have HE1 : Hid (allB (ps.take (k + 1)) = pre ++ l) := e1
      have HLT : Hid (∀ x ∈ pre ++ l, x < 256) := hlt'
      have hpl : A + l.length ≤ 1099511627776 := by have := HT.out; have := HA.out; simp at e2; omega
      clear e1 e2 hpe hc hlt' hpre
      obtain ⟨N, hN⟩ : ∃ N, N = l.length := ⟨_, rfl⟩
      have HN : Hid (l.length = N) := hN.symm
      rw [← hN] at hcell hlc hpl
      clear hN
      go_wp2
      go_loop [3, 4, 6] (fun at' t ix => ∃ j T' : Nat, j ≤ N ∧ ix = .int .i64 j ∧ at' = .int .i64 ((A + j : Nat) : Int) ∧ t = .int .i64 T' ∧ T' ≤ 71776119061217280 ∧ Hid (T' = S.wv false (pre ++ l.take j))) (fun _ _ ix => N - (intOf ix).toNat)
      case atStart => exact ⟨0, T, Nat.zero_le _, rfl, rfl, rfl, hT, by show _ = _; rw [List.take_zero, List.append_nil]; exact HTV.out⟩
      case round =>
        obtain ⟨j, T', hj, rfl, rfl, rfl, hT', HT'⟩ := hrel
        by_cases hjl : j < N
        · obtain ⟨pb, poff, rfl, hpcell⟩ := seg_at hseg j (by rw [HN.out]; exact hjl)
          have c0 := hpcell j (by rw [HN.out]; exact hjl)
          have htk : l.take (j + 1) = l.take j ++ [l.getD j 0] := by
            rw [List.take_succ_eq_append_getElem (by rw [HN.out]; exact hjl)]
            simp [List.getD, show j < l.length by rw [HN.out]; exact hjl]
          have hstep := wv_snoc (pre ++ l.take j) (l.getD j 0)
          rw [List.append_assoc, ← htk, ← HT'.out] at hstep
          have hlen : (pre ++ l.take j).length = A + j := by rw [List.length_append, List.length_take, HN.out, ← HA.out]; omega
          rw [hlen] at hstep
          have hb := S.wv_le false (pre ++ l.take (j + 1)) (fun x hx => HLT.out x (by
            rcases List.mem_append.1 hx with h | h
            · exact List.mem_append_left _ h
            · exact List.mem_append_right _ (List.mem_of_mem_take h)))
          have hlen2 : (pre ++ l.take (j + 1)).length = A + j + 1 := by rw [List.length_append, List.length_take, HN.out, ← HA.out]; omega
          rw [hlen2] at hb
          have hx256 : l.getD j 0 < 256 := by
            simp only [List.getD, List.getElem?_eq_getElem (show j < l.length by rw [HN.out]; exact hjl), Option.getD_some]; exact hl256 _ (List.getElem_mem _)
          obtain ⟨x, hx⟩ : ∃ x, x = l.getD j 0 := ⟨_, rfl⟩
          rw [← hx] at c0 hstep hx256
          have HB : Hid _ := hb
          clear hx htk hlen hlen2 hpcell hb
          by_cases hpar : (A + j) % 2 = 0
          · rw [if_pos hpar] at hstep
            have HST : Hid (S.wv false (pre ++ l.take (j + 1)) = T' + 256 * x) := hstep
            have hT2 : T' + 256 * x ≤ 71776119061217280 := by have := HB.out; have := HST.out; omega
            have hp1 : (((A + j : Nat) : Int) % 2 == 0) = true := by simp; omega
            have hp2 : ((((A : Int) + (j : Int))) % 2 == 0) = true := by simp; omega
            clear hstep
            go_wp2
            go_round
            case rel => exact ⟨j + 1, T' + 256 * x, by omega, by go_num, by go_num, by go_num, hT2, HST.out.symm⟩
            case measure => simp [intOf]; omega
          · rw [if_neg hpar] at hstep
            have HST : Hid (S.wv false (pre ++ l.take (j + 1)) = T' + x) := hstep
            have hT2 : T' + x ≤ 71776119061217280 := by have := HB.out; have := HST.out; omega
            have hp1 : (((A + j : Nat) : Int) % 2 == 0) = false := by simp; omega
            have hp2 : ((((A : Int) + (j : Int))) % 2 == 0) = false := by simp; omega
            clear hstep
            go_wp2
            go_round
            case rel => exact ⟨j + 1, T' + x, by omega, by go_num, by go_num, by go_num, hT2, HST.out.symm⟩
            case measure => simp [intOf]; omega
        · obtain rfl : j = N := by omega
          have HT2 : Hid (T' = S.wv false (allB (ps.take (k + 1)))) := by have h := HT'.out; rw [List.take_of_length_le (by rw [HN.out]; exact Nat.le_refl _), ← HE1.out] at h; exact h
          go_wp2
          go_round
          case rel => exact ⟨k + 1, A + j, T', by omega, by go_num, rfl, rfl, hpl, hT', by show _ = _; rw [HE1.out, List.length_append, ← HA.out, HN.out], HT2⟩
          case measure => simp [intOf]; omega
    · obtain rfl : k = ps.length := by omega
      have HTV2 : Hid (T = S.wv false (allB ps)) := by have := HTV.out; rw [List.take_length] at this; exact this
      go_wp2_with fail
      refine (rfolded_any T _ (by omega)).mono ?_
      rintro e w' ⟨rfl, rfl⟩
      go_wp2
      go_ret
      exact ⟨ret1 (by rw [HTV2.out]), rfl⟩

theorem rgood_any (a : Option Addr) (n cap : Nat) (ps : List Part) (w : World) (hn : ps.length = n) (hps : Parts w a ps) (htot : (allB ps).length ≤ 1099511627776) (hn2 : n ≤ 9223372036854775807) :
    Calls Tryz.prog 117 #[.slice a n cap] w fun e w' => e = .returned (.bool (decide (S.fold (S.wv false (allB ps)) = 65535))) ∧ w = w' := by
  go_enter Tryz.func117, Tryz.ntmps117
  go_wp2_with fail
  refine (rsum_any a n cap ps w hn hps htot hn2).mono ?_
  rintro e w1 ⟨rfl, rfl⟩
  have h1 := S.fold_le (S.wv false (allB ps))
  obtain ⟨f, hf⟩ : ∃ f, f = S.fold (S.wv false (allB ps)) := ⟨_, rfl⟩
  rw [← hf] at h1 ⊢
  have HF : Hid (f = S.fold (S.wv false (allB ps))) := hf
  clear hf
  go_wp2
  go_ret
  refine ⟨congrArg (fun b => Ending.returned (.bool b)) ?_, rfl⟩
  rw [← HF.out]
  by_cases h : f = 65535
  · subst h; rfl
  · have h2 : ¬ (f : Int) = 65535 := by omega
    rw [decide_eq_false h]
    simpa using h2


section
variable (w : World) (B : Nat) (a1 a2 : Option Addr) (n1 n2 c1 c2 : Nat) (l1 l2 : List Nat)
theorem rgood_one (hB : B = w.heap.size) (hl1 : l1.length = n1) (h1 : Part.ok w ⟨a1, c1, l1⟩) (hs : n1 ≤ 1099511627776) :
    Calls Tryz.prog 117 #[.slice (some ⟨B, 0, none⟩) 1 1] (w.alloc (.cells #[.slice a1 n1 c1] 28)) fun e w' => e = .returned (.bool (decide (S.fold (S.wv false l1) = 65535))) ∧ Below w.heap.size w w' := by
  subst hB hl1
  have := rgood_any (some ⟨w.heap.size, 0, none⟩) 1 1 [⟨a1, c1, l1⟩] _ rfl (parts_new w [⟨a1, c1, l1⟩] 28 (by intro p hp; simp at hp; subst hp; exact h1)) (by simp [allB]; omega) (by omega)
  simp only [allB, List.flatMap_cons, List.flatMap_nil, List.append_nil] at this
  exact this.mono (fun e w' h => ⟨h.1, by rw [← h.2]; exact (Below.refl _ _).alloc (Nat.le_refl _) _⟩)
end
end Go.Proofs.YtfoeepbndfnifaaGreatDoor
namespace Go.Proofs.YtfoeepbndfnifaaGreatDoor
open Go.RowKit
theorem rcheck_any (a : Option Addr) (n cap : Nat) (ps : List Part) (w : World) (hn : ps.length = n) (hps : Parts w a ps) (htot : (allB ps).length ≤ 1099511627776) (hn2 : n ≤ 9223372036854775807) :
    Calls Tryz.prog 102 #[.slice a n cap] w fun e w' => e = .returned (.int .i64 ((65535 - S.fold (S.wv false (allB ps)) : Nat) : Int)) ∧ w = w' := by
  go_enter Tryz.func102, Tryz.ntmps102
  go_wp2_with fail
  refine (rsum_any a n cap ps w hn hps htot hn2).mono ?_
  rintro e w1 ⟨rfl, rfl⟩
  have h1 := S.fold_le (S.wv false (allB ps))
  obtain ⟨f, hf⟩ : ∃ f, f = S.fold (S.wv false (allB ps)) := ⟨_, rfl⟩
  rw [← hf] at h1 ⊢
  have HF : Hid (f = S.fold (S.wv false (allB ps))) := hf
  clear hf
  go_wp2
  go_ret
  exact ⟨ret1 (by rw [← HF.out]; omega), rfl⟩
theorem rcheck_two {w : World} {B n1 n2 c1 c2 : Nat} {a1 a2 : Option Addr} {l1 l2 : List Nat} (hB : B = w.heap.size) (hl1 : l1.length = n1) (hl2 : l2.length = n2) (h1 : Part.ok w ⟨a1, c1, l1⟩) (h2 : Part.ok w ⟨a2, c2, l2⟩) (hs : n1 + n2 ≤ 1099511627776) :
    Calls Tryz.prog 102 #[.slice (some ⟨B, 0, none⟩) 2 2] (w.alloc (.cells #[.slice a1 n1 c1, .slice a2 n2 c2] 28)) fun e w' => e = .returned (.int .i64 ((65535 - S.fold (S.wv false (l1 ++ l2)) : Nat) : Int)) ∧ Below w.heap.size w w' := by
  subst hB hl1 hl2
  have := rcheck_any (some ⟨w.heap.size, 0, none⟩) 2 2 [⟨a1, c1, l1⟩, ⟨a2, c2, l2⟩] _ rfl (parts_new w [⟨a1, c1, l1⟩, ⟨a2, c2, l2⟩] 28 (by intro p hp; simp at hp; rcases hp with rfl | rfl; exact h1; exact h2)) (by simp [allB]; omega) (by omega)
  simp only [allB, List.flatMap_cons, List.flatMap_nil, List.append_nil] at this
  exact this.mono (fun e w' h => ⟨h.1, by rw [← h.2]; exact (Below.refl _ _).alloc (Nat.le_refl _) _⟩)
end Go.Proofs.YtfoeepbndfnifaaGreatDoor
namespace Go.Proofs.YtfoeepbndfnifaaGreatDoor
open Go.RowKit
open L4 (U9 T9)

theorem rgood_two (w : World) (B : Nat) (a1 a2 : Option Addr) (n1 n2 c1 c2 : Nat) (l1 l2 : List Nat) (hB : B = w.heap.size) (hl1 : l1.length = n1) (hl2 : l2.length = n2) (h1 : Part.ok w ⟨a1, c1, l1⟩) (h2 : Part.ok w ⟨a2, c2, l2⟩) (hs : n1 + n2 ≤ 1099511627776) :
    Calls Tryz.prog 117 #[.slice (some ⟨B, 0, none⟩) 2 2] (w.alloc (.cells #[.slice a1 n1 c1, .slice a2 n2 c2] 28)) fun e w' => e = .returned (.bool (decide (S.fold (S.wv false (l1 ++ l2)) = 65535))) ∧ Below w.heap.size w w' := by
  subst hB hl1 hl2
  have := rgood_any (some ⟨w.heap.size, 0, none⟩) 2 2 [⟨a1, c1, l1⟩, ⟨a2, c2, l2⟩] _ rfl (parts_new w [⟨a1, c1, l1⟩, ⟨a2, c2, l2⟩] 28 (by intro p hp; simp at hp; rcases hp with rfl | rfl; exact h1; exact h2)) (by simp [allB]; omega) (by omega)
  simp only [allB, List.flatMap_cons, List.flatMap_nil, List.append_nil] at this
  exact this.mono (fun e w' h => ⟨h.1, by rw [← h.2]; exact (Below.refl _ _).alloc (Nat.le_refl _) _⟩)
set_option maxHeartbeats 1600000 in
set_option maxRecDepth 100000 in
theorem rfit_any (V U : Int) (x y : Nat → Nat) (w : World) :
    Calls Tryz.prog 62 #[.agg (ipCells V x), .agg (ipCells U y)] w fun e w' => e = .returned (.bool (psOk V U x y)) ∧ Below w.heap.size w w' := by
  obtain ⟨A, hA⟩ : ∃ A, A = ipCells V x := ⟨_, rfl⟩
  obtain ⟨C, hC⟩ : ∃ C, C = ipCells U y := ⟨_, rfl⟩
  have hx1 := boxed_new w V x 27
  have hy1 := boxed_new (w.alloc (.cells (ipCells V x) 27)) U y 27
  rw [World.size_alloc] at hy1
  have hx2 := hx1.old ((Below.refl _ _).alloc (Nat.le_refl _) (.cells (ipCells U y) 27))
  clear hx1
  rw [← hA] at hx2 hy1 ⊢
  rw [← hC] at hx2 hy1 ⊢
  have bel : Below w.heap.size w ((w.alloc (.cells A 27)).alloc (.cells C 27)) := ((Below.refl _ _).alloc (Nat.le_refl _) _).alloc (by simp) _
  obtain ⟨W, hW⟩ : ∃ W, W = (w.alloc (.cells A 27)).alloc (.cells C 27) := ⟨_, rfl⟩
  rw [← hW] at hx2 hy1 bel
  obtain ⟨B, hB⟩ : ∃ B, B = w.heap.size := ⟨_, rfl⟩
  have HB : Hid (w.heap.size = B) := hB.symm
  rw [← hB] at hx2 hy1
  have HW : Hid ((w.alloc (.cells A 27)).alloc (.cells C 27) = W) := hW.symm
  have HXB : Hid (Boxed W B V x) := hx2
  have HYB : Hid (Boxed W (B + 1) U y) := hy1
  clear hW hx2 hy1 hA hC hB
  have QP : Hid _ := rpseudo_any V U x y 0 0 W
  obtain ⟨E, hE⟩ : ∃ E, E = psE V U x y 0 0 := ⟨_, rfl⟩
  rw [← hE] at QP
  have HE : Hid (E = psE V U x y 0 0) := hE
  clear hE
  go_enter Tryz.func62, Tryz.ntmps62
  go_upto_region 1 with fail
  rw [HB.out, HW.out]
  go_wp2_with (first | (refine wpList_load_ip (.tmp 2) rfl B V x rfl HXB.out rfl ?_) | (refine wpList_load_ip (.tmp 3) rfl (B + 1) U y rfl HYB.out rfl ?_))
  refine Calls.mono QP.out ?_
  rintro e w1 ⟨v, rfl, ho, hb1⟩
  have bel1 := bthen bel hb1
  clear QP ho hb1
  have hb : (E == 0) = psOk V U x y := by
    rw [HE.out]
    cases hp : psOk V U x y with
    | true => rw [psE_ok hp (by simp [psIn])]; rfl
    | false => rw [psE_no hp]; rfl
  go_wp2
  go_ret
  exact ⟨by first | rfl | (rw [hb]), bel1⟩
set_option maxHeartbeats 1600000 in
set_option maxRecDepth 100000 in
theorem rgood9_any (V U : Int) (x y : Nat → Nat) (p : Nat) (a : Option Addr) (n c : Nat) (bs : List Nat) (w : World) (hok : psOk V U x y = true) (hp : p ≤ 255) (hn : n ≤ 65535) (hx : ∀ i, i < 16 → x i < 256) (hy : ∀ i, i < 16 → y i < 256) (hd : DOk w bs a n c) :
    Calls Tryz.prog 103 #[.agg (ipCells V x), .agg (ipCells U y), .int .i64 (p : Int), .slice a n c] w fun e w' => e = .returned (.bool (decide (S.fold (S.wv false (psL V U x y (p : Nat) (n : Nat) ++ bs)) = 65535))) ∧ Below w.heap.size w w' := by
  obtain ⟨A, hA⟩ : ∃ A, A = ipCells V x := ⟨_, rfl⟩
  obtain ⟨C, hC⟩ : ∃ C, C = ipCells U y := ⟨_, rfl⟩
  have hx1 := boxed_new w V x 27
  have hy1 := boxed_new (w.alloc (.cells (ipCells V x) 27)) U y 27
  rw [World.size_alloc] at hy1
  have hx2 := hx1.old ((Below.refl _ _).alloc (Nat.le_refl _) (.cells (ipCells U y) 27))
  clear hx1
  rw [← hA] at hx2 hy1 ⊢
  rw [← hC] at hx2 hy1 ⊢
  have bel : Below w.heap.size w ((w.alloc (.cells A 27)).alloc (.cells C 27)) := ((Below.refl _ _).alloc (Nat.le_refl _) _).alloc (by simp) _
  obtain ⟨W, hW⟩ : ∃ W, W = (w.alloc (.cells A 27)).alloc (.cells C 27) := ⟨_, rfl⟩
  rw [← hW] at hx2 hy1 bel
  obtain ⟨B, hB⟩ : ∃ B, B = w.heap.size := ⟨_, rfl⟩
  have HB : Hid (w.heap.size = B) := hB.symm
  rw [← hB] at hx2 hy1
  have HW : Hid ((w.alloc (.cells A 27)).alloc (.cells C 27) = W) := hW.symm
  have HX : Hid (∀ i, i < 16 → x i < 256) := hx
  have HY : Hid (∀ i, i < 16 → y i < 256) := hy
  have HXB : Hid (Boxed W B V x) := hx2
  have HYB : Hid (Boxed W (B + 1) U y) := hy1
  clear hW hx2 hy1 hx hy hA hC hB
  have HD : Hid (DOk w bs a n c) := hd
  have QP : Hid _ := rpseudo_any V U x y (p : Int) (n : Int) W
  obtain ⟨pb, hpb⟩ : ∃ pb, pb = psL V U x y (p : Nat) (n : Nat) := ⟨_, rfl⟩
  have HPE : Hid (psE V U x y (p : Int) (n : Int) = 0) := psE_ok hok (by simp [psIn]; omega)
  rw [← hpb, HPE.out] at QP
  rw [← hpb]
  have HP256 : Hid (∀ z ∈ pb, z < 256) := by rw [hpb]; exact psL_256 V U x y (p : Nat) (n : Nat) HX.out HY.out
  have HP40 : Hid (pb.length ≤ 40) := by rw [hpb]; exact psL_len _ _ _ _ _ _
  clear hpb hok hd
  go_enter Tryz.func103, Tryz.ntmps103
  go_upto_region 1 with fail
  rw [HB.out, HW.out]
  go_wp2_with (first | (refine wpList_load_ip (.tmp 4) rfl B V x rfl HXB.out rfl ?_) | (refine wpList_load_ip (.tmp 5) rfl (B + 1) U y rfl HYB.out rfl ?_))
  refine Calls.mono QP.out ?_
  rintro e w1 ⟨v, rfl, ho, hb1⟩
  obtain ⟨pa, pc, rfl⟩ := owns_shape ho
  have bel1 := bthen bel hb1
  have QG : Hid _ := rgood_two w1 w1.heap.size pa a pb.length n pc c pb bs rfl rfl HD.out.dl (OwnB.part ho HP256.out) (HD.out.old bel1).part (by have := HP40.out; omega)
  obtain ⟨G, hG⟩ : ∃ G, G = decide (S.fold (S.wv false (pb ++ bs)) = 65535) := ⟨_, rfl⟩
  rw [← hG] at QG
  have HG : Hid (decide (S.fold (S.wv false (pb ++ bs)) = 65535) = G) := hG.symm
  obtain ⟨pl, hpl⟩ : ∃ pl, pl = pb.length := ⟨_, rfl⟩
  rw [← hpl] at QG ⊢
  clear QP ho hb1 hG hpl
  go_wp2_with fail
  refine Calls.mono QG.out ?_
  rintro e w2 ⟨rfl, hb2⟩
  have bel2 := bthen bel1 hb2
  clear QG hb2
  go_wp2
  go_ret
  exact ⟨by rw [HG.out]; rfl, bel2⟩
end Go.Proofs.YtfoeepbndfnifaaGreatDoor
namespace Go.Proofs.YtfoeepbndfnifaaGreatDoor
open Go.RowKit
open L4 (U9 T9)

theorem owns_at {w : World} {base : Nat} {e : TypeId} {g : Option Addr} {n c : Nat} {k : IntKind} {zs : List Int} (h : w.ownsRow base e 1 (.slice g n c) n (zs.map (Value.int k))) : Seg k w g zs ∧ n ≤ c ∧ c ≤ 9223372036854775807 := by
  obtain ⟨a, c', e1, hs, _, h1, h2⟩ := owns_seg h
  simp only [Value.slice.injEq, true_and] at e1
  rw [e1.1, e1.2]
  exact ⟨hs, h1, by unfold maxLen at h2; exact h2⟩
theorem owns_below {w w' : World} {base : Nat} {e : TypeId} {s : Nat} {v : Value} {n : Nat} {xs : List Value} (h : w.ownsRow base e s v n xs) (b : Below w.heap.size w w') : w'.ownsRow base e s v n xs := (Ch.ofBelow (S := fun _ => False) b).owns h (fun _ _ => id)
theorem add_blk (x : Addr) (i : Nat) : (x.add i).block = x.block := by
  unfold Addr.add
  split <;> rfl
theorem cutA_blk {a : Option Addr} {i n : Nat} {z : Addr} (h : cutA a i n = some z) : ∃ x, a = some x ∧ z.block = x.block := by
  unfold cutA at h
  split at h
  · exact ⟨z, h, rfl⟩
  · cases a with
    | none => simp at h
    | some x =>
      simp only [Option.map_some, Option.some.injEq] at h
      exact ⟨x, rfl, by rw [← h, add_blk]⟩
theorem seg_newz (w : World) (zs : List Int) (t : TypeId) : Seg .u8 (w.alloc (.cells (zs.map (Value.int .u8)).toArray t)) (some ⟨w.heap.size, 0, none⟩) zs := by
  refine .inr ⟨w.heap.size, 0, rfl, fun i hi => ?_⟩
  rw [World.cell?_alloc_at _ _ _ _ rfl]
  simp [hi, List.getD]
theorem owns_some {w : World} {B : Nat} {e : TypeId} {s m : Nat} {v : Value} {xs : List Value} (h : w.ownsRow B e s v m xs) (hm : 0 < m) : ∃ g c, v = .slice (some ⟨g, 0, none⟩) m c := by
  rcases h.2 with ⟨_, h0⟩ | ⟨g, cap, cur, e1, _⟩
  · omega
  · exact ⟨g, cap, e1⟩
set_option maxHeartbeats 800000 in
set_option maxRecDepth 100000 in
theorem wide_any (a : Option Addr) (n cap : Nat) (l : List Nat) (w : World) (hn : l.length = n) (hs : Seg .u8 w a (toI l)) (hm : n ≤ 1048576) :
    Calls Tryz.prog 77 #[.slice a n cap] w fun e w' => ∃ g c, e = .returned (.slice (some ⟨g, 0, none⟩) (n + 3) c) ∧ w'.ownsRow w.heap.size 5 1 (.slice (some ⟨g, 0, none⟩) (n + 3) c) (n + 3) ((toI (l ++ [91, 92, 93])).map (Value.int .u8)) ∧ Below w.heap.size w w' := by
  obtain ⟨i0, hi, hz0, hz1, hz2⟩ := info_parts Tryz.infoByte
  have QC : Hid _ := copied_any a n cap l w hn hs (by omega)
  clear hn hs
  go_enter Tryz.func77, Tryz.ntmps77
  go_wp2_with fail
  refine Calls.mono QC.out ?_
  rintro e w1 ⟨v1, rfl, ho1, hb1⟩
  have HO1 : Hid (w1.ownsRow w.heap.size 5 1 v1 n ((toI l).map (Value.int .u8))) := ho1
  have hsz : w.heap.size ≤ w1.heap.size := hb1.size
  have HB1 : Hid (Below w.heap.size w w1) := hb1
  clear ho1 hb1 QC
  go_wp2_with (first | (at_builtin; refine append_split_seg rfl (.tmp 6) (.tmp 7) 28 rfl w.heap.size 5 i0 (.int .u8 0) 1 Tryz.underlying28 hi hz0 hz1 hz2 rfl v1 n _ rfl (HO1.out.alloc _) .u8 (some ⟨w1.heap.size, 0, none⟩) 3 3 [91, 92, 93] rfl rfl (seg_newz w1 [91, 92, 93] _) (by unfold maxLen; omega) (by omega) (by simp; omega) ?_))
  intro v' w' ho hq hg
  have bA : Below w.heap.size w (w1.alloc (.cells #[.int .u8 91, .int .u8 92, .int .u8 93] 5)) := HB1.out.alloc HB1.out.size _
  have hb : Below w.heap.size w w' := bA.grown hg (by simp; omega) (fun q hq => (HO1.out.lt q hq).1)
  obtain ⟨g, c, rfl⟩ := owns_some ho (by omega)
  have HO : Hid (w'.ownsRow w.heap.size 5 1 (.slice (some ⟨g, 0, none⟩) (n + 3) c) (n + 3) ((toI (l ++ [91, 92, 93])).map (Value.int .u8))) := by
    have e : (toI (l ++ [91, 92, 93])).map (Value.int .u8) = (toI l).map (Value.int .u8) ++ ([91, 92, 93] : List Int).map (Value.int .u8) := by simp [toI]
    rw [e]
    exact ho
  clear ho hq hg bA
  go_wp2
  go_ret
  exact ⟨g, c, rfl, HO.out, hb⟩
set_option maxHeartbeats 1600000 in
set_option maxRecDepth 100000 in
theorem kept_any (g o : Nat) (b : Option Addr) (n c cb : Nat) (l : List Nat) (w : World) (hn : l.length = n) (hs : Seg .u8 w (some ⟨g, o, none⟩) (toI (l ++ [91, 92, 93]))) (hb : Seg .u8 w b (toI l)) (h256 : ∀ x ∈ l, x < 256) (hc : n + 3 ≤ c) (hm : n ≤ 1048576) :
    Calls Tryz.prog 82 #[.slice (some ⟨g, o, none⟩) (n + 3) c, .slice b n cb] w fun e w' => e = .returned (.bool true) ∧ w = w' := by
  have hl : (l ++ [91, 92, 93]).length = n + 3 := by simp; omega
  obtain ⟨g', o', e1, hcs⟩ := seg_at hs n (by omega)
  have e2 := Option.some.inj e1
  simp only [Addr.mk.injEq, and_true] at e2
  obtain ⟨rfl, rfl⟩ := e2
  have g0 : (l ++ [91, 92, 93]).getD n 0 = 91 := by subst hn; simp [List.getD]
  have g1 : (l ++ [91, 92, 93]).getD (n + 1) 0 = 92 := by subst hn; simp [List.getD]
  have g2 : (l ++ [91, 92, 93]).getD (n + 2) 0 = 93 := by subst hn; simp [List.getD]
  have c0 := hcs n (by omega)
  have c1 := hcs (n + 1) (by omega)
  have c2 := hcs (n + 2) (by omega)
  rw [g0] at c0
  rw [g1] at c1
  rw [g2] at c2
  have QA : Hid _ := alike_any (some ⟨g, o, none⟩) b n n c cb l l w hn hn (by have := hs.part0 n (by rw [toI_len]; omega); rw [toI_take, List.take_append_of_le_length (by omega), List.take_of_length_le (by omega)] at this; exact this) hb h256 h256
  rw [decide_eq_true rfl] at QA
  have k0 : (0 : Int) ≤ (n : Int) := by omega
  have k1 : (n : Int) ≤ (c : Int) := by omega
  have k2 : ((n : Int)).toNat = n := by omega
  have w3 : IntKind.i64.wrap ((n : Int) + 3) = (n : Int) + 3 := by rw [IntKind.wrap_i64]; omega
  have w1 : IntKind.i64.wrap ((n : Int) + 1) = (n : Int) + 1 := by rw [IntKind.wrap_i64]; omega
  have w2 : IntKind.i64.wrap ((n : Int) + 2) = (n : Int) + 2 := by rw [IntKind.wrap_i64]; omega
  have j0 : (n : Int) < ((n + 3 : Nat) : Int) := by omega
  have j1 : (n : Int) + 1 < ((n + 3 : Nat) : Int) := by omega
  have j2 : (n : Int) + 2 < ((n + 3 : Nat) : Int) := by omega
  have j3 : (0 : Int) ≤ (n : Int) + 1 := by omega
  have j4 : (0 : Int) ≤ (n : Int) + 2 := by omega
  have j5 : ((n : Int) + 1).toNat = n + 1 := by omega
  have j6 : ((n : Int) + 2).toNat = n + 2 := by omega
  have eq3 : (((n + 3 : Nat) : Int) == (n : Int) + 3) = true := by simp
  clear hn hs hb h256 hcs hl e1 g0 g1 g2
  go_enter Tryz.func82, Tryz.ntmps82
  go_wp2_with fail
  refine Calls.mono QA.out ?_
  rintro e w' ⟨rfl, rfl⟩
  go_wp2
  go_ret
  exact ⟨rfl, rfl⟩
/-- bytes of a window turned over -/
def xr (l : List Nat) (p k c : Nat) : List Nat := (List.range l.length).map (fun i => if p ≤ i ∧ i < p + k then l.getD i 0 ^^^ c else l.getD i 0)
theorem xr_len (l : List Nat) (p k c : Nat) : (xr l p k c).length = l.length := by simp [xr]
theorem xr_get (l : List Nat) (p k c i : Nat) (h : i < l.length) : (xr l p k c).getD i 0 = if p ≤ i ∧ i < p + k then l.getD i 0 ^^^ c else l.getD i 0 := by
  unfold xr
  simp only [List.getD, List.getElem?_map, List.getElem?_range h, Option.map_some, Option.getD_some]
theorem ext_getD {l m : List Nat} (hl : l.length = m.length) (h : ∀ i, i < l.length → l.getD i 0 = m.getD i 0) : l = m := I4.getD_ext hl h
theorem xr_zero (l : List Nat) (p c : Nat) : xr l p 0 c = l := by
  refine ext_getD (xr_len _ _ _ _) (fun i hi => ?_)
  rw [xr_len] at hi
  rw [xr_get _ _ _ _ _ hi, if_neg (by omega)]
theorem xr_step (l : List Nat) (p k c : Nat) : (xr l p k c).set (p + k) (l.getD (p + k) 0 ^^^ c) = xr l p (k + 1) c := by
  refine ext_getD (by simp [xr_len]) (fun i hi => ?_)
  rw [List.length_set, xr_len] at hi
  rw [xr_get _ _ _ _ _ hi]
  by_cases e : i = p + k
  · subst e
    rw [if_pos (by omega)]
    simp [List.getD, xr_len, hi]
  · have : ((xr l p k c).set (p + k) (l.getD (p + k) 0 ^^^ c)).getD i 0 = (xr l p k c).getD i 0 := by
      simp only [List.getD, List.getElem?_set]
      rw [if_neg (fun h => e h.symm)]
    rw [this, xr_get _ _ _ _ _ hi]
    by_cases h1 : p ≤ i ∧ i < p + k
    · rw [if_pos h1, if_pos (by omega)]
    · rw [if_neg h1, if_neg (by omega)]
theorem xr_next (l : List Nat) (p k c : Nat) (h : p + k < l.length) : (xr l p k c).getD (p + k) 0 = l.getD (p + k) 0 := by rw [xr_get _ _ _ _ _ h, if_neg (by omega)]
theorem xr_back (l : List Nat) (p n c : Nat) : xr (xr l p n c) p n c = l := by
  refine ext_getD (by rw [xr_len, xr_len]) (fun i hi => ?_)
  rw [xr_len, xr_len] at hi
  rw [xr_get _ _ _ _ _ (by rw [xr_len]; exact hi), xr_get _ _ _ _ _ hi]
  by_cases h1 : p ≤ i ∧ i < p + n
  · rw [if_pos h1, if_pos h1, Nat.xor_assoc, Nat.xor_self, Nat.xor_zero]
  · rw [if_neg h1, if_neg h1]
theorem xr_256 (l : List Nat) (p k c : Nat) (h : ∀ x ∈ l, x < 256) (hc : c < 256) : ∀ x ∈ xr l p k c, x < 256 := by
  intro x hx
  simp only [xr, List.mem_map, List.mem_range] at hx
  obtain ⟨i, hi, rfl⟩ := hx
  have h1 := I4.getD_lt l h i
  split
  · exact Nat.xor_lt_two_pow (n := 8) h1 hc
  · exact h1
theorem xr_app (a b : List Nat) (p k c : Nat) (h : p + k ≤ a.length) : xr (a ++ b) p k c = xr a p k c ++ b := by
  refine ext_getD (by simp [xr_len]) (fun i hi => ?_)
  rw [xr_len] at hi
  rw [xr_get _ _ _ _ _ hi]
  by_cases h1 : i < a.length
  · rw [I4.getD_app1 (xr a p k c) b i (by rw [xr_len]; exact h1), xr_get _ _ _ _ _ h1, I4.getD_app1 a b i h1]
  · rw [if_neg (by omega)]
    obtain ⟨j, rfl⟩ : ∃ j, i = a.length + j := ⟨i - a.length, by omega⟩
    rw [I4.getD_app2]
    have := I4.getD_app2 (xr a p k c) b j
    rw [xr_len] at this
    rw [this]
theorem xr_take (l : List Nat) (p k c n : Nat) (h : n ≤ p) : (xr l p k c).take n = l.take n := by
  refine ext_getD (by simp [xr_len]) (fun i hi => ?_)
  rw [List.length_take, xr_len] at hi
  rw [I4.getD_take _ _ _ (by omega), I4.getD_take _ _ _ (by omega), xr_get _ _ _ _ _ (by omega), if_neg (by omega)]
theorem xr_low (l : List Nat) (p k c i : Nat) (h : i < p) : (xr l p k c).getD i 0 = l.getD i 0 := by
  by_cases hi : i < l.length
  · rw [xr_get _ _ _ _ _ hi, if_neg (by omega)]
  · simp [List.getD, List.getElem?_eq_none (show l.length ≤ i by omega), List.getElem?_eq_none (show (xr l p k c).length ≤ i by rw [xr_len]; omega)]
theorem xor_lt (x c : Nat) (hx : x < 256) (hc : c < 256) : x ^^^ c < 256 := Nat.xor_lt_two_pow (n := 8) hx hc
/-- how many of the first k lie in the window -/
def cntW (p D k : Nat) : Nat := min k (p + D) - min k p
theorem three_new (w : World) (x y z : Value) (t : TypeId) : ∀ j u, ([x, y, z] : List Value)[j]? = some u → (w.alloc (.cells #[x, y, z] t)).cell? ((⟨w.heap.size, 0, none⟩ : Addr).add j) = some u := by
  intro j u hj
  rw [Addr.add_lit, Nat.zero_add, World.cell?_alloc_at _ _ _ _ rfl]
  match j, hj with
  | 0, hj => simpa using hj
  | 1, hj => simpa using hj
  | 2, hj => simpa using hj
  | j + 3, hj => simp at hj
end Go.Proofs.YtfoeepbndfnifaaGreatDoor
namespace Go.Proofs.YtfoeepbndfnifaaGreatDoor
open Go.RowKit

theorem flat_small (l : List (Int × List Nat)) (h : l.all I4.okO = true) : (I4.flatI l).length ≤ 40 * l.length := by
  induction l with
  | nil => simp [I4.flatI, I4.flatO]
  | cons o l ih =>
    simp only [List.all_cons, Bool.and_eq_true] at h
    have h1 := ih h.2
    have h2 : o.2.length ≤ 38 := by have := h.1; simp only [I4.okO, Bool.and_eq_true, decide_eq_true_eq] at this; exact this.2
    unfold I4.flatI at h1 ⊢
    rw [List.map_cons, I4.flatO_cons, List.length_cons]
    have : (I4.natO o).2.length = o.2.length := rfl
    omega
/-- the state of the first loop -/
structure RpS (w : World) (os : List OpV) (v : Value) (k : Nat) (wr : World) : Prop where
  own : wr.ownsRow w.heap.size 5 1 v (I4.flatI ((vals os).take k)).length ((toI (I4.flatI ((vals os).take k))).map (Value.int .u8))
  ok : ((vals os).take k).all I4.okO = true
  bel : Below w.heap.size w wr
theorem RpS.small {w wr : World} {os : List OpV} {v : Value} {k : Nat} (h : RpS w os v k wr) : (I4.flatI ((vals os).take k)).length ≤ 40 * k := by
  have := flat_small _ h.ok
  have h2 : ((vals os).take k).length ≤ k := by rw [List.length_take]; omega
  omega
/-- the state of the second loop -/
structure RqS (w : World) (F : List Nat) (v : Value) (z : Nat) (wr : World) : Prop where
  own : wr.ownsRow w.heap.size 5 1 v (F.length + z) ((toI (F ++ List.replicate z 0)).map (Value.int .u8))
  bel : Below w.heap.size w wr
  zl : z ≤ (4 - F.length % 4) % 4
def lenV : Value → Nat
  | .slice _ n _ => n
  | _ => 0
/-- what it answers -/
def RPut (w : World) (l : List (Int × List Nat)) (e : Ending) (w' : World) : Prop :=
  (I4.putOk l = true ∧ ∃ v, e = .returned (.tuple #[v, .int .i64 0]) ∧ w'.ownsRow w.heap.size 5 1 v (I4.putO l).length ((toI (I4.putO l)).map (Value.int .u8))) ∨ (I4.putOk l = false ∧ e = .returned (.tuple #[.slice none 0 0, .int .i64 65]))
set_option maxHeartbeats 6400000 in
set_option maxRecDepth 100000 in
theorem rput_any (la : Option Addr) (n cap : Nat) (os : List OpV) (w : World) (hn : os.length = n) (ho : OptsAt w la os) (hb : n ≤ 1048576) (hd : ∀ o ∈ os, o.d.length ≤ 1048576) :
    Calls Tryz.prog 66 #[.slice la n cap] w fun e w' => Below w.heap.size w w' ∧ RPut w (vals os) e w' := by
  obtain ⟨i0, hi, hz0, hz1, hz2⟩ := info_parts Tryz.infoByte
  have HN : Hid (os.length = n) := hn
  have HO : Hid (OptsAt w la os) := ho
  have HD : Hid (∀ o ∈ os, o.d.length ≤ 1048576) := hd
  have HS0 : Hid (RpS w os (.slice none 0 0) 0 w) := ⟨by simp [I4.flatI, I4.flatO, toI]; exact World.ownsRow_nil _ _ _ _, by simp, Below.refl _ _⟩
  clear hn ho hd
  go_enter Tryz.func66, Tryz.ntmps66
  go_wp2
  go_loopw [4, 5] (fun l ix wr => ∃ (k : Nat) (v : Value), v = l ∧ ix = .int .i64 k ∧ k ≤ n ∧ Hid (RpS w os v k wr)) (fun _ ix _ => n - (intOf ix).toNat)
  case atStart => exact ⟨0, _, rfl, rfl, Nat.zero_le _, HS0⟩
  case round =>
    obtain ⟨k, v, rfl, rfl, hk, HS⟩ := hrel
    by_cases hlt : k < n
    · obtain ⟨o, hok⟩ : ∃ o, os[k]? = some o := ⟨_, List.getElem?_eq_getElem (by rw [HN.out]; exact hlt)⟩
      obtain ⟨b1, o1, rfl, hl1, ok1, c10, c11⟩ := HO.out.at k o hok
      have hdl := HD.out o (List.mem_of_getElem? hok)
      obtain ⟨kd, hkd⟩ : ∃ kd, kd = o.k := ⟨_, rfl⟩
      obtain ⟨D, hDD⟩ : ∃ D, D = o.d.length := ⟨_, rfl⟩
      rw [← hkd] at c10
      rw [← hDD] at c11 hdl
      have F10 : Hid (∀ x, Below w.heap.size w x → x.cell? ⟨b1, o1 + k * 2, none⟩ = some (.int .i64 kd)) := fun x hx => (hx.cell (p := ⟨b1, o1 + k * 2, none⟩) hl1).trans c10
      have F11 : Hid (∀ x, Below w.heap.size w x → x.cell? ⟨b1, o1 + k * 2 + 1, none⟩ = some (.slice o.a D o.c)) := fun x hx => (hx.cell (p := ⟨b1, o1 + k * 2 + 1, none⟩) hl1).trans c11
      have HSG : Hid (∀ x, Below w.heap.size w x → Seg .u8 x o.a (toI o.d)) := fun x hx => ok1.seg.old hx
      have HVO : Hid (os[k]? = some o) := hok
      have HKD : Hid (kd = o.k) := hkd
      have HDD : Hid (D = o.d.length) := hDD
      have k0 : (0 : Int) ≤ (k : Int) := by omega
      have k1 : (k : Int) < (n : Int) := by omega
      have k2 : ((k : Int)).toNat = k := by omega
      have wk : IntKind.i64.wrap ((k : Int) + 1) = (k : Int) + 1 := by rw [IntKind.wrap_i64]; omega
      have g10 := F10.out wr HS.out.bel
      have g11 := F11.out wr HS.out.bel
      clear hok ok1 c10 c11 hkd hDD hl1
      by_cases ha : kd < 2
      · have HF : Hid (I4.putOk (vals os) = false) := put_bad1 os k o HVO.out (okO_false o (.inl (by rw [← HKD.out]; exact ha)))
        go_wp2
        go_ret2
        exact ⟨HS.out.bel, .inr ⟨HF.out, rfl⟩⟩
      by_cases hb2 : 255 < kd
      · have HF : Hid (I4.putOk (vals os) = false) := put_bad1 os k o HVO.out (okO_false o (.inr (.inl (by rw [← HKD.out]; exact hb2))))
        go_wp2
        go_ret2
        exact ⟨HS.out.bel, .inr ⟨HF.out, rfl⟩⟩
      by_cases hc : 38 < D
      · have HF : Hid (I4.putOk (vals os) = false) := put_bad1 os k o HVO.out (okO_false o (.inr (.inr (by rw [← HDD.out]; exact hc))))
        have hc' : (38 : Int) < (D : Int) := by omega
        clear hc
        go_wp2
        go_ret2
        exact ⟨HS.out.bel, .inr ⟨HF.out, rfl⟩⟩
      have hc' : ¬ (38 : Int) < (D : Int) := by omega
      obtain ⟨m, hm⟩ : ∃ m : Nat, kd = (m : Int) := ⟨kd.toNat, by omega⟩
      have HM : Hid (kd = (m : Int)) := hm
      have u1 : IntKind.u8.wrap kd = kd := by rw [IntKind.wrap_u8]; omega
      have u2 : IntKind.u8.wrap ((D : Int) + 2) = (D : Int) + 2 := by rw [IntKind.wrap_u8]; omega
      have w2 : IntKind.i64.wrap ((D : Int) + 2) = (D : Int) + 2 := by rw [IntKind.wrap_i64]; omega
      have HOK : Hid (I4.okO o.val = true) := okO_true o (by rw [← HKD.out]; omega) (by rw [← HKD.out]; omega) (by rw [← HDD.out]; omega)
      obtain ⟨L, hL⟩ : ∃ L, L = (I4.flatI ((vals os).take k)).length := ⟨_, rfl⟩
      have hown : wr.ownsRow w.heap.size 5 1 v L ((toI (I4.flatI ((vals os).take k))).map (Value.int .u8)) := by rw [hL]; exact HS.out.own
      have hLs : L ≤ 41943040 := by have := HS.out.small; omega
      have HL : Hid (L = (I4.flatI ((vals os).take k)).length) := hL
      have hsz : w.heap.size ≤ wr.heap.size := HS.out.bel.size
      have hDl : D ≤ 38 := by omega
      clear hc hL hm
      go_upto_region 8 with fail
      go_wp2_with (first | (at_builtin; refine append_split_seg rfl (.tmp 37) (.tmp 47) 28 rfl w.heap.size 5 i0 (.int .u8 0) 1 Tryz.underlying28 hi hz0 hz1 hz2 rfl v L _ rfl (hown.alloc _) .u8 (some ⟨wr.heap.size, 0, none⟩) 2 2 [kd, (D : Int) + 2] rfl rfl (seg_newz wr [kd, (D : Int) + 2] _) (by unfold maxLen; omega) (by omega) (by simp; omega) ?_))
      intro v2 wx ho2 hq2 hg2
      have bA : Below w.heap.size w (wr.alloc (.cells #[.int .u8 kd, .int .u8 ((D : Int) + 2)] 5)) := HS.out.bel.alloc hsz _
      have bX : Below w.heap.size w wx := bA.grown hg2 (by simp; omega) (fun q hq => (hown.lt q hq).1)
      have HO2 : Hid (wx.ownsRow w.heap.size 5 1 v2 (L + 2) ((toI (I4.flatI ((vals os).take k))).map (Value.int .u8) ++ [.int .u8 kd, .int .u8 ((D : Int) + 2)])) := ho2
      have hszx : w.heap.size ≤ wx.heap.size := bX.size
      have g11x := F11.out wx bX
      have hsgx := HSG.out wx bX
      have HBX : Hid (Below w.heap.size w wx) := bX
      have HOKK : Hid (((vals os).take k).all I4.okO = true) := HS.out.ok
      have HDL2 : Hid (o.d.length = D) := HDD.out.symm
      clear hown hsz ho2 hq2 hg2 bA bX g10 g11 HS
      go_wp2_with (first | (at_builtin; refine append_split_seg rfl (.tmp 49) (.tmp 54) 28 rfl w.heap.size 5 i0 (.int .u8 0) 1 Tryz.underlying28 hi hz0 hz1 hz2 rfl v2 (L + 2) _ rfl HO2.out .u8 o.a D o.c (toI o.d) rfl (by rw [toI_len]; exact HDL2.out) hsgx (by unfold maxLen; omega) (by omega) hszx ?_))
      intro v3 wy ho3 hq3 hg3
      have HS3 : Hid (RpS w os v3 (k + 1) wy) := by
        have e1 : I4.flatI ((vals os).take (k + 1)) = I4.flatI ((vals os).take k) ++ (m :: (D + 2) :: o.d) := by
          rw [vals_take os k o HVO.out, flatI_snoc]
          have : o.val.1.toNat = m := by show o.k.toNat = m; rw [← HKD.out, HM.out]; omega
          have h2 : o.val.2 = o.d := rfl
          rw [this, h2, HDL2.out]
        refine ⟨?_, ?_, HBX.out.grown hg3 hszx (fun q hq => (HO2.out.lt q hq).1)⟩
        · rw [e1, List.length_append, ← HL.out]
          have e2 : L + (m :: (D + 2) :: o.d).length = L + 2 + D := by rw [List.length_cons, List.length_cons, HDL2.out]; omega
          have e3 : (toI (I4.flatI ((vals os).take k) ++ (m :: (D + 2) :: o.d))).map (Value.int .u8) = (toI (I4.flatI ((vals os).take k))).map (Value.int .u8) ++ [.int .u8 kd, .int .u8 ((D : Int) + 2)] ++ (toI o.d).map (Value.int .u8) := by
            simp [toI, HM.out]
          rw [e2, e3]
          simpa using ho3
        · rw [vals_take os k o HVO.out, List.all_append, HOKK.out]
          simp [HOK.out]
      clear ho3 hq3 hg3 hsgx
      go_wp2
      go_roundw
      case rel => exact ⟨k + 1, v3, rfl, by go_num, by omega, HS3⟩
      case measure => simp [intOf]; omega
    · have hkn : k = n := by omega
      subst hkn
      have hni : ¬ ((k : Int) < (k : Int)) := by omega
      have htk : (vals os).take k = vals os := List.take_of_length_le (by simp [vals, HN.out])
      obtain ⟨F, hF⟩ : ∃ F, F = I4.flatI (vals os) := ⟨_, rfl⟩
      have HF : Hid (F = I4.flatI (vals os)) := hF
      have HALL : Hid ((vals os).all I4.okO = true) := by have := HS.out.ok; rw [htk] at this; exact this
      have hFl : F.length ≤ 41943040 := by have h1 := HS.out.small; rw [htk, ← hF] at h1; omega
      have HQ0 : Hid (RqS w F v 0 wr) := by
        refine ⟨?_, HS.out.bel, Nat.zero_le _⟩
        have := HS.out.own
        rw [htk, ← hF] at this
        simpa using this
      clear hlt HS htk hF
      go_wp2
      go_loopw [4] (fun l wr => ∃ (z : Nat) (v : Value), v = l ∧ Hid (RqS w F v z wr)) (fun l _ => 41943044 - lenV l)
      case atStart => exact ⟨0, v, rfl, HQ0⟩
      case round =>
        obtain ⟨z, v, rfl, HQ⟩ := hrel
        obtain ⟨va, vc, rfl⟩ := owns_shape HQ.out.own
        have hzl := HQ.out.zl
        have HZL : Hid (z ≤ (4 - F.length % 4) % 4) := hzl
        obtain ⟨G, hG⟩ : ∃ G, G = F.length + z := ⟨_, rfl⟩
        have HG : Hid (G = F.length + z) := hG
        have hGs : G ≤ 41943043 := by omega
        have hown : wr.ownsRow w.heap.size 5 1 (.slice va G vc) G ((toI (F ++ List.replicate z 0)).map (Value.int .u8)) := by rw [hG]; exact HQ.out.own
        have hsz : w.heap.size ≤ wr.heap.size := HQ.out.bel.size
        rw [← hG]
        by_cases hz : G % 4 = 0
        · have q1 : ((G : Int) % 4 != 0) = false := by simp; omega
          have hzz : z = (4 - F.length % 4) % 4 := by omega
          have HPAD : Hid (F ++ List.replicate z 0 = I4.pad4 F) := by show _ = _; unfold I4.pad4; rw [hzz]
          have HOW : Hid (wr.ownsRow w.heap.size 5 1 (.slice va G vc) G ((toI (I4.pad4 F)).map (Value.int .u8))) := by rw [← HPAD.out]; exact hown
          have HPL : Hid ((I4.pad4 F).length = G) := by show _ = _; rw [← HPAD.out, HG.out]; simp
          have HFG : Hid (F.length ≤ G ∧ (G ≤ 40 ↔ F.length ≤ 40)) := by
            refine ⟨by omega, ⟨fun h => by omega, fun h => by omega⟩⟩
          clear hz hzl hzz hG hown
          by_cases h40 : 40 < G
          · have c40 : (40 : Int) < (G : Int) := by omega
            have HNO : Hid (I4.putOk (vals os) = false) := by
              show _ = _
              unfold I4.putOk
              rw [decide_eq_false (by rw [← HF.out]; have := HFG.out; omega), Bool.and_false]
            clear h40
            go_wp2
            go_ret2
            exact ⟨HQ.out.bel, .inr ⟨HNO.out, rfl⟩⟩
          · have c40 : ¬ (40 : Int) < (G : Int) := by omega
            have HYES : Hid (I4.putOk (vals os) = true ∧ I4.putO (vals os) = I4.pad4 F) := by
              have h1 : I4.putOk (vals os) = true := by
                unfold I4.putOk
                rw [HALL.out, decide_eq_true (by rw [← HF.out]; have := HFG.out; omega)]
                rfl
              refine ⟨h1, ?_⟩
              unfold I4.putO
              rw [if_pos h1, HF.out]
            clear h40
            go_wp2
            go_ret2
            exact ⟨HQ.out.bel, .inl ⟨HYES.out.1, _, rfl, by rw [HYES.out.2, HPL.out]; exact HOW.out⟩⟩
        · have q1 : ((G : Int) % 4 != 0) = true := by rw [bne_iff_ne]; omega
          have hz1 : z + 1 ≤ (4 - F.length % 4) % 4 := by omega
          have HZ1 : Hid (z + 1 ≤ (4 - F.length % 4) % 4) := hz1
          have HQW : Hid (wr.ownsRow w.heap.size 5 1 (.slice va G vc) G ((toI (F ++ List.replicate z 0)).map (Value.int .u8))) := hown
          clear hz hzl hG hz1 hown
          go_wp2_with (first | (at_builtin; refine append_split_seg rfl (.tmp 60) (.tmp 61) 28 rfl w.heap.size 5 i0 (.int .u8 0) 1 Tryz.underlying28 hi hz0 hz1 hz2 rfl (.slice va G vc) G _ rfl (HQW.out.alloc _) .u8 (some ⟨wr.heap.size, 0, none⟩) 1 1 [0] rfl rfl (seg_newz wr [0] _) (by unfold maxLen; omega) (by omega) (by simp; omega) ?_))
          intro v3 wy ho3 hq3 hg3
          have bA : Below w.heap.size w (wr.alloc (.cells #[.int .u8 0] 5)) := HQ.out.bel.alloc hsz _
          have HS3 : Hid (RqS w F v3 (z + 1) wy) := by
            refine ⟨?_, bA.grown hg3 (by simp; omega) (fun q hq => (HQW.out.lt q hq).1), HZ1.out⟩
            have e1 : F.length + (z + 1) = G + 1 := by rw [HG.out]; omega
            have e3 : (toI (F ++ List.replicate (z + 1) 0)).map (Value.int .u8) = (toI (F ++ List.replicate z 0)).map (Value.int .u8) ++ [.int .u8 0] := by
              rw [List.replicate_succ', ← List.append_assoc]
              simp [toI]
            rw [e1, e3]
            exact ho3
          have HLV : Hid (lenV v3 = G + 1) := by obtain ⟨a', c', rfl⟩ := owns_shape ho3; rfl
          clear ho3 hq3 hg3 bA
          go_wp2
          go_roundw
          case rel => exact ⟨z + 1, v3, rfl, HS3⟩
          case measure => rw [HLV.out]; show 41943044 - (G + 1) < 41943044 - G; omega
end Go.Proofs.YtfoeepbndfnifaaGreatDoor
namespace Go.Proofs.YtfoeepbndfnifaaGreatDoor
open Go.RowKit
open L4 (U9 T9)
theorem rout_any (n hi : Int) (w : World) : Calls Tryz.prog 71 #[.int .i64 n, .int .i64 hi] w fun e w' => e = .returned (.bool (!L4.inB n hi)) ∧ w = w' := by
  by_cases h1 : n < 0
  · go_enter Tryz.func71, Tryz.ntmps71
    go_wp2
    go_ret
    refine ⟨congrArg (fun b => Ending.returned (.bool b)) ?_, rfl⟩
    simp [L4.inB]
    omega
  · go_enter Tryz.func71, Tryz.ntmps71
    go_wp2
    go_ret
    refine ⟨congrArg (fun b => Ending.returned (.bool b)) ?_, rfl⟩
    rw [Bool.eq_iff_iff]
    simp [L4.inB]
    omega
def rlen (k n : Int) : Bool := if k = 2 then decide (n = 4) else if k = 3 then decide (n = 3) else if k = 4 then decide (n = 2) else if k = 5 then decide (n = 10 ∨ n = 18 ∨ n = 26 ∨ n = 34) else if k = 8 then decide (n = 10) else decide (2 ≤ n)
theorem rlen_eq (k n : Int) : rlen k n = (L4.lenOk k n && decide (2 ≤ n)) := by
  unfold rlen L4.lenOk L4.lenTab
  rw [Bool.eq_iff_iff]
  by_cases h2 : k = 2
  · subst h2; simp; omega
  by_cases h3 : k = 3
  · subst h3; simp; omega
  by_cases h4 : k = 4
  · subst h4; simp; omega
  by_cases h5 : k = 5
  · subst h5; simp; omega
  by_cases h8 : k = 8
  · subst h8; simp; omega
  have e2 : ¬ 2 = k := fun e => h2 e.symm
  have e3 : ¬ 3 = k := fun e => h3 e.symm
  have e4 : ¬ 4 = k := fun e => h4 e.symm
  have e5 : ¬ 5 = k := fun e => h5 e.symm
  have e8 : ¬ 8 = k := fun e => h8 e.symm
  simp [h2, h3, h4, h5, h8, e2, e3, e4, e5, e8]
set_option maxHeartbeats 1600000 in
theorem rlen_any (k n : Int) (w : World) : Calls Tryz.prog 65 #[.int .i64 k, .int .i64 n] w fun e w' => e = .returned (.bool (rlen k n)) ∧ w = w' := by
  by_cases h2 : k = 2
  · subst h2
    go_enter Tryz.func65, Tryz.ntmps65
    go_wp2
    go_ret
    refine ⟨congrArg (fun b => Ending.returned (.bool b)) ?_, rfl⟩
    simp [rlen]
    rfl
  have b2 : (k == 2) = false := by rw [beq_eq_false_iff_ne]; exact h2
  by_cases h3 : k = 3
  · subst h3
    go_enter Tryz.func65, Tryz.ntmps65
    go_wp2
    go_ret
    refine ⟨congrArg (fun b => Ending.returned (.bool b)) ?_, rfl⟩
    simp [rlen]
    rfl
  have b3 : (k == 3) = false := by rw [beq_eq_false_iff_ne]; exact h3
  by_cases h4 : k = 4
  · subst h4
    go_enter Tryz.func65, Tryz.ntmps65
    go_wp2
    go_ret
    refine ⟨congrArg (fun b => Ending.returned (.bool b)) ?_, rfl⟩
    simp [rlen]
    rfl
  have b4 : (k == 4) = false := by rw [beq_eq_false_iff_ne]; exact h4
  by_cases h5 : k = 5
  · subst h5
    by_cases q : n = 10
    · subst q
      go_enter Tryz.func65, Tryz.ntmps65
      go_wp2
      go_ret
      exact ⟨rfl, rfl⟩
    have c1 : (n == 10) = false := by rw [beq_eq_false_iff_ne]; exact q
    by_cases q2 : n = 18
    · subst q2
      go_enter Tryz.func65, Tryz.ntmps65
      go_wp2
      go_ret
      exact ⟨rfl, rfl⟩
    have c2 : (n == 18) = false := by rw [beq_eq_false_iff_ne]; exact q2
    by_cases q3 : n = 26
    · subst q3
      go_enter Tryz.func65, Tryz.ntmps65
      go_wp2
      go_ret
      exact ⟨rfl, rfl⟩
    have c3 : (n == 26) = false := by rw [beq_eq_false_iff_ne]; exact q3
    have HR : Hid (rlen 5 n = (n == 34)) := by
      show _ = _
      rw [Bool.eq_iff_iff]
      simp [rlen]
      omega
    clear q q2 q3
    go_enter Tryz.func65, Tryz.ntmps65
    go_wp2
    go_ret
    exact ⟨by rw [HR.out]; rfl, rfl⟩
  have b5 : (k == 5) = false := by rw [beq_eq_false_iff_ne]; exact h5
  by_cases h8 : k = 8
  · subst h8
    go_enter Tryz.func65, Tryz.ntmps65
    go_wp2
    go_ret
    refine ⟨congrArg (fun b => Ending.returned (.bool b)) ?_, rfl⟩
    simp [rlen]
    rfl
  have b8 : (k == 8) = false := by rw [beq_eq_false_iff_ne]; exact h8
  have HR : Hid (rlen k n = decide (2 ≤ n)) := by show _ = _; unfold rlen; rw [if_neg h2, if_neg h3, if_neg h4, if_neg h5, if_neg h8]
  clear h2 h3 h4 h5 h8
  go_enter Tryz.func65, Tryz.ntmps65
  go_wp2
  go_ret
  refine ⟨?_, rfl⟩
  rw [HR.out]
  rfl
theorem byN_pre (cnt m k : Nat) (h : k < cnt) : (byN cnt m).take (k + 1) = (byN cnt m).take k ++ [m / (256 ^ (cnt - 1) / 256 ^ k) % 256] := by
  have e : 256 ^ (cnt - 1) / 256 ^ k = 256 ^ (cnt - 1 - k) := by rw [Nat.pow_div (by omega) (by omega)]
  have hl : k < (byN cnt m).length := by simp [byN]; exact h
  rw [e, List.take_add_one, List.getElem?_eq_getElem hl]
  simp [byN]
set_option maxHeartbeats 3200000 in
set_option maxRecDepth 100000 in
theorem radd_any (B : Nat) (v : Value) (L m cnt : Nat) (l : List Nat) (w : World) (ho : w.ownsRow B 5 1 v L ((toI l).map (Value.int .u8))) (hL : L ≤ 1048576) (hm : m ≤ 4294967295) (hc : 1 ≤ cnt ∧ cnt ≤ 4) (hB : B ≤ w.heap.size) :
    Calls Tryz.prog 63 #[v, .int .i64 (m : Int), .int .i64 (cnt : Int)] w fun e w' => ∃ v', e = .returned v' ∧ w'.ownsRow B 5 1 v' (L + cnt) ((toI (l ++ byN cnt m)).map (Value.int .u8)) ∧ Below B w w' := by
  obtain ⟨i0, hi, hz0, hz1, hz2⟩ := info_parts Tryz.infoByte
  obtain ⟨va, vc, rfl⟩ := owns_shape ho
  have HO : Hid (w.ownsRow B 5 1 (.slice va (L + 0) vc) (L + 0) ((toI (l ++ (byN cnt m).take 0)).map (Value.int .u8)) ∧ Below B w w) := ⟨by simpa using ho, Below.refl _ _⟩
  obtain ⟨hc1, hc4⟩ := hc
  obtain ⟨PP, hPP⟩ : ∃ PP, PP = 256 ^ (cnt - 1) := ⟨_, rfl⟩
  have HPP : Hid (PP = 256 ^ (cnt - 1)) := hPP
  clear ho hPP
  go_enter Tryz.func63, Tryz.ntmps63
  go_wp2
  go_loop [7, 8] (fun px ix => ∃ k : Nat, (1 ≤ k ∧ k ≤ cnt) ∧ px = .int .i64 ((256 ^ (k - 1) : Nat) : Int) ∧ ix = .int .i64 (k : Int)) (fun _ ix => cnt - (intOf ix).toNat)
  case atStart => exact ⟨1, by omega, rfl, rfl⟩
  case round =>
    obtain ⟨k, hk, rfl, rfl⟩ := hrel
    by_cases hge : cnt ≤ k
    · have d0 : ¬ (k : Int) < (cnt : Int) := by omega
      have HK : Hid (256 ^ (k - 1) = PP) := by show _ = _; rw [HPP.out, show k = cnt by omega]
      rw [HK.out]
      clear hge hk
      go_wp2
      clear d0
      obtain ⟨p0, hp0⟩ : ∃ p0, p0 = PP := ⟨_, rfl⟩
      go_loopw [0, 7, 9] (fun lx px ix wr => ∃ (k : Nat) (a : Option Addr) (c : Nat), k ≤ cnt ∧ lx = .slice a (L + k) c ∧ px = .int .i64 ((PP / 256 ^ k : Nat) : Int) ∧ ix = .int .i64 (k : Int) ∧ Hid (wr.ownsRow B 5 1 (.slice a (L + k) c) (L + k) ((toI (l ++ (byN cnt m).take k)).map (Value.int .u8)) ∧ Below B w wr)) (fun _ _ ix _ => cnt - (intOf ix).toNat)
      case atStart => exact ⟨0, va, vc, Nat.zero_le _, rfl, by simp, rfl, HO⟩
      case round =>
        clear hp0 HK
        obtain ⟨k, a, c, hk, rfl, rfl, rfl, HK⟩ := hrel
        by_cases hge : cnt ≤ k
        · have d0 : ¬ (k : Int) < (cnt : Int) := by omega
          have HE : Hid (k = cnt) := by show _ = _; omega
          have HT : Hid ((byN cnt m).take k = byN cnt m) := List.take_of_length_le (by simp [byN]; omega)
          clear hge
          go_wp2
          go_ret
          refine ⟨.slice a (L + k) c, rfl, ?_, HK.out.2⟩
          have := HK.out.1
          rw [HT.out, HE.out] at this
          rw [HE.out]
          exact this
        · have d0 : (k : Int) < (cnt : Int) := by omega
          have hkc : k < cnt := by omega
          obtain ⟨P, hP⟩ : ∃ P, P = PP / 256 ^ k := ⟨_, rfl⟩
          have hP1 : 1 ≤ P := by
            rw [hP, HPP.out, Nat.pow_div (by omega) (by omega)]
            exact Nat.pos_of_ne_zero (by simp)
          have hPu : P ≤ 16777216 := by
            rw [hP, HPP.out]
            have h1 : (256 : Nat) ^ (cnt - 1) ≤ 256 ^ 3 := Nat.pow_le_pow_right (by omega) (by omega)
            have h2 := Nat.div_le_self (256 ^ (cnt - 1)) (256 ^ k)
            omega
          have x9 : wrap64 ((P : Int) / 256) = (P : Int) / 256 := by unfold wrap64; omega
          have HPN : Hid (PP / 256 ^ (k + 1) = P / 256) := by show _ = _; rw [hP, Nat.div_div_eq_div_mul, Nat.pow_succ]
          obtain ⟨x, hx⟩ : ∃ x, x = m / P % 256 := ⟨_, rfl⟩
          have HX : Hid ((byN cnt m).take (k + 1) = (byN cnt m).take k ++ [x]) := by
            show _ = _
            rw [byN_pre cnt m k hkc, hx, hP, HPP.out]
          have x1 : IntKind.u8.wrap ((m : Int) / (P : Int) % 256) = (x : Int) := by
            have : ((m : Int) / (P : Int) % 256) = ((m / P % 256 : Nat) : Int) := by simp
            rw [this, ← hx, IntKind.wrap_u8]
            have : x < 256 := by rw [hx]; exact Nat.mod_lt _ (by omega)
            omega
          have x2 : ¬ (P : Int) = 0 := by omega
          have x3 : Int.tdiv (m : Int) (P : Int) = (m : Int) / (P : Int) := Int.tdiv_eq_ediv_of_nonneg (by omega)
          have x5 : (0 : Int) ≤ (m : Int) / (P : Int) := Int.ediv_nonneg (by omega) (by omega)
          have x4 : Int.tmod ((m : Int) / (P : Int)) 256 = (m : Int) / (P : Int) % 256 := Int.tmod_eq_emod_of_nonneg x5
          have x6 : (m : Int) / (P : Int) ≤ (m : Int) := Int.ediv_le_self _ (by omega)
          have x7 : IntKind.i64.wrap ((m : Int) / (P : Int)) = (m : Int) / (P : Int) := by rw [IntKind.wrap_i64]; omega
          have x8 : IntKind.i64.wrap ((m : Int) / (P : Int) % 256) = (m : Int) / (P : Int) % 256 := by rw [IntKind.wrap_i64]; omega
          rw [← hP]
          have hsz := HK.out.2.size
          have HKO : Hid (∀ o : Obj, (wr.alloc o).ownsRow B 5 1 (.slice a (L + k) c) (L + k) ((toI (l ++ (byN cnt m).take k)).map (Value.int .u8))) := fun o => HK.out.1.alloc o
          have hbz : B ≤ wr.heap.size := by omega
          clear hge hP hx
          go_wp2_with (first | (at_builtin; refine wpList_append_own _ rfl (.tmp 22) (.tmp 28) 28 rfl B 5 i0 (.int .u8 0) 1 1 Tryz.underlying28 hi hz0 hz1 hz2 rfl (by decide) _ _ _ rfl (HKO.out _) ⟨wr.heap.size, 0, none⟩ 1 1 [.int .u8 (x : Int)] rfl rfl ?g1 ?g2 ?g3 ?g4 ?g5 ?_))
          try (case g1 => exact cell_one_new _ _ _)
          try (case g2 => first | rfl | (intro u hu; simp at hu; subst hu; rfl))
          try (case g3 => unfold maxLen; omega)
          try (case g4 => omega)
          try (case g5 => first | omega | (simp; omega))
          intro v6 w6 ho6 hg6 _
          obtain ⟨a6, c6, rfl⟩ := owns_shape ho6
          have HN : Hid (w6.ownsRow B 5 1 (.slice a6 (L + (k + 1)) c6) (L + (k + 1)) ((toI (l ++ (byN cnt m).take (k + 1))).map (Value.int .u8)) ∧ Below B w w6) := by
            refine ⟨?_, ?_⟩
            · rw [HX.out]
              have e : (toI (l ++ ((byN cnt m).take k ++ [x]))).map (Value.int .u8) = (toI (l ++ (byN cnt m).take k)).map (Value.int .u8) ++ [.int .u8 (x : Int)] := by simp [toI]
              rw [e]
              exact ho6
            · exact HK.out.2.trans (((Ch.ofBelow (S := fun q => (Value.slice a (L + k) c).ownBlock = some q) ((Below.refl _ _).alloc (Nat.le_refl wr.heap.size) _)).trans (Ch.ofGrown hg6) (fun _ _ q => q)).below (fun x q => (HK.out.1.lt x q).1) hbz)
          clear ho6 hg6 HK HKO
          go_wp2
          go_roundw
          case rel => exact ⟨k + 1, a6, c6, by omega, rfl, by rw [HPN.out]; go_num, by go_num, HN⟩
          case measure => simp [intOf]; omega
    · have d0 : (k : Int) < (cnt : Int) := by omega
      obtain ⟨P, hP⟩ : ∃ P, P = 256 ^ (k - 1) := ⟨_, rfl⟩
      have hPl : P ≤ 16777216 := by
        rw [hP]
        have : (256 : Nat) ^ (k - 1) ≤ 256 ^ 3 := Nat.pow_le_pow_right (by omega) (by omega)
        omega
      have HPN : Hid (256 ^ (k + 1 - 1) = P * 256) := by
        show _ = _
        rw [hP, ← Nat.pow_succ]
        congr 1
        omega
      rw [← hP]
      clear hge hP
      go_wp2
      go_round
      case rel => exact ⟨k + 1, by omega, by rw [HPN.out]; go_num, by go_num⟩
      case measure => simp [intOf]; omega
end Go.Proofs.YtfoeepbndfnifaaGreatDoor
