/-
  The statements' same.
-/
import Derived.Test.YtfnmidaiabjpbabSum5
namespace Go.Proofs.Ytfnmidaiabjpbab
open Go.RowKit

theorem take_same (l m : List Nat) (k : Nat) (h1 : k < l.length) (h2 : k < m.length) (he : l.take k = m.take k) (hk : l.getD k 0 = m.getD k 0) : Hid (l.take (k + 1) = m.take (k + 1)) := by
  show _ = _
  rw [List.take_succ_eq_append_getElem h1, List.take_succ_eq_append_getElem h2, he]
  simp [List.getD, h1, h2] at hk
  rw [hk]

set_option maxHeartbeats 400000 in
theorem same_any (a b : Option Addr) (n1 n2 ca cb : Nat) (l m : List Nat) (w : World) (hn1 : l.length = n1) (hn2 : m.length = n2) (hl : Seg .u8 w a (toI l)) (hm : Seg .u8 w b (toI m)) (hl2 : n1 ≤ 9223372036854775807) :
    Calls Try.prog 16 #[.slice a n1 ca, .slice b n2 cb] w fun e w' => e = .returned (.bool (decide (l = m))) ∧ Below w.heap.size w w' := by
  subst hn1 hn2
  by_cases hlen : l.length = m.length
  · have h1 : ((l.length : Int) != (m.length : Int)) = false := by simp; omega
    have HLEN : Hid (l.length = m.length) := hlen
    obtain ⟨n, hn⟩ : ∃ n, n = l.length := ⟨_, rfl⟩
    have HN : Hid (l.length = n ∧ m.length = n) := ⟨hn.symm, by omega⟩
    have e2 : m.length = n := by omega
    rw [e2, ← hn]
    rw [← hn] at hl2
    clear h1 hlen hn e2
    have h1 : ((n : Int) != (n : Int)) = false := by simp
    go_enter Try.func16, Try.ntmps16
    go_wp2
    go_loopw [5] (fun ix wr => ∃ k : Nat, k ≤ n ∧ ix = .int .i64 k ∧ Hid (l.take k = m.take k) ∧ Below w.heap.size w wr) (fun ix _ => n - (intOf ix).toNat)
    case atStart => exact ⟨0, Nat.zero_le _, rfl, by show _ = _; simp, Below.refl _ _⟩
    case round =>
      obtain ⟨k, hk, rfl, HE, hbel⟩ := hrel
      by_cases hlt : k < n
      · obtain ⟨lb, loff, rfl, hlc⟩ := seg_at (hl.old hbel) k (by rw [HN.out.1]; exact hlt)
        obtain ⟨mb, moff, rfl, hmc⟩ := seg_at (hm.old hbel) k (by rw [HN.out.2]; exact hlt)
        have c1 := hlc k (by rw [HN.out.1]; exact hlt)
        have c2 := hmc k (by rw [HN.out.2]; exact hlt)
        obtain ⟨x, hx⟩ : ∃ x, x = l.getD k 0 := ⟨_, rfl⟩
        obtain ⟨y, hy⟩ : ∃ y, y = m.getD k 0 := ⟨_, rfl⟩
        rw [← hx] at c1
        rw [← hy] at c2
        have HX : Hid (x = l.getD k 0) := hx
        have HY : Hid (y = m.getD k 0) := hy
        clear hlc hmc hx hy
        by_cases hxy : x = y
        · subst hxy
          have hq : ((x : Int) != (x : Int)) = false := by simp
          go_wp2
          go_region
          go_wp2
          go_roundw
          case rel => exact ⟨k + 1, by omega, by go_num, take_same l m k (by rw [HN.out.1]; exact hlt) (by rw [HN.out.2]; exact hlt) HE.out (by rw [← HX.out, ← HY.out]), hbel.drew⟩
          case measure => simp [intOf]; omega
        · have hq : ((x : Int) != (y : Int)) = true := by simp; omega
          go_wp2
          go_region
          go_wp2
          go_ret
          have : l ≠ m := fun e => hxy (by rw [HX.out, HY.out, e])
          exact ⟨by simp [this], hbel.drew⟩
      · obtain rfl : k = n := by omega
        have : l = m := by
          have h := HE.out
          rw [List.take_of_length_le (by rw [HN.out.1]; omega), List.take_of_length_le (by rw [HN.out.2]; omega)] at h
          exact h
        have HLM : Hid (l = m) := this
        clear this
        go_wp2
        go_ret
        exact ⟨by simp [HLM.out], hbel⟩
  · have h1 : ((l.length : Int) != (m.length : Int)) = true := by rw [bne_iff_ne]; omega
    have hne : Hid (l ≠ m) := fun e => hlen (by rw [e])
    go_enter Try.func16, Try.ntmps16
    go_wp2
    go_ret
    exact ⟨by simp [hne.out], Below.refl _ _⟩

end Go.Proofs.Ytfnmidaiabjpbab
