/-
  The document's own bytes of a number, its builder: Bytes, Join.
-/
import Derived.Test.YtcgfdhmegagjdaaBuilder4
import Derived.Test.YtcgfdhmegagjdaaRef
import Derived.Test.YtcgfdhmegagjdaaSide
namespace Go.Proofs.Ytcgfdhmegagjdaa
open Go.RowKit

theorem top_byte (v k : Nat) (hk : k < 8) : v * 256 ^ k % 18446744073709551616 / 72057594037927936 = v / 256 ^ (7 - k) % 256 := by
  match k, hk with
  | 0, _ => simp; omega
  | 1, _ => simp; omega
  | 2, _ => simp; omega
  | 3, _ => simp; omega
  | 4, _ => simp; omega
  | 5, _ => simp; omega
  | 6, _ => simp; omega
  | 7, _ => simp; omega
theorem next_val (v k : Nat) : v * 256 ^ k % 18446744073709551616 * 256 % 18446744073709551616 = v * 256 ^ (k + 1) % 18446744073709551616 := by
  rw [Nat.pow_succ, ← Nat.mul_assoc, Nat.mod_mul_mod]
theorem u64_wrap (x : Nat) : IntKind.u64.wrap (x : Int) = ((x % 18446744073709551616 : Nat) : Int) := by
  simp [IntKind.wrap, IntKind.bits, IntKind.signed]
theorem byN_take (v k : Nat) (h : k < 8) : (byN 8 v).take (k + 1) = (byN 8 v).take k ++ [v / 256 ^ (7 - k) % 256] := by
  rw [List.take_succ_eq_append_getElem (by rw [byN_len]; exact h)]
  simp [byN]
theorem byN_drop (n v : Nat) (h1 : 1 ≤ n) (h : n ≤ 8) : (byN 8 v).drop (8 - n) = byN n v := by
  apply List.ext_getElem
  · simp [byN_len]; omega
  · intro i h1 h2
    simp [byN] at h1 h2 ⊢
    congr 3; omega
theorem byN_get (v i : Nat) (h : i < 8) : (byN 8 v).getD i 0 = v / 256 ^ (7 - i) % 256 := by
  simp [byN, List.getD, h]
theorem digit_step (v i : Nat) (h : v < 256 ^ (8 - i)) (hi : i < 8) (h0 : v / 256 ^ (7 - i) % 256 = 0) : v < 256 ^ (8 - (i + 1)) := by
  have e : 8 - i = (7 - i) + 1 := by omega
  rw [e, Nat.pow_succ] at h
  have : v / 256 ^ (7 - i) < 256 := Nat.div_lt_of_lt_mul h
  rw [Nat.mod_eq_of_lt this] at h0
  have h2 := (Nat.div_eq_zero_iff.1 h0)
  rw [show 8 - (i + 1) = 7 - i by omega]
  rcases h2 with h2 | h2
  · have := Nat.pow_pos (n := 7 - i) (show 0 < 256 by decide); omega
  · exact h2
theorem digit_big (v n i : Nat) (hi : i < 8 - n) (h0 : v / 256 ^ (7 - i) % 256 ≠ 0) : 256 ^ n ≤ v := by
  apply Nat.le_of_not_lt
  intro h
  apply h0
  have : v < 256 ^ (7 - i) := Nat.lt_of_lt_of_le h (Nat.pow_le_pow_right (by decide) (by omega))
  rw [Nat.div_eq_of_lt this]

/-- the bytes of a number, in new memory -/
def RBok (w w' : World) (n v : Nat) (e : Ending) : Prop := ∃ g c, w.heap.size ≤ g ∧ e = .returned (.tuple #[.slice (some ⟨g, 8 - n, none⟩) n c, .int .i64 0]) ∧ Seg .u8 w' (some ⟨g, 8 - n, none⟩) (toI (byN n v))
theorem u64_div (x : Nat) (h : x < 18446744073709551616) : ∃ y : Nat, y < 18446744073709551616 ∧ IntKind.u64.wrap ((x : Int) / 256) = (y : Int) ∧ y = x / 256 := by
  refine ⟨x / 256, by omega, ?_, rfl⟩
  have : (x : Int) / 256 = ((x / 256 : Nat) : Int) := by omega
  rw [this, u64_wrap, Nat.mod_eq_of_lt (by omega)]
set_option maxHeartbeats 400000 in
theorem refBytes_arg (n v : Int) (w : World) (h : n < 1 ∨ 8 < n) : Calls Try.prog 52 #[.int .i64 n, .int .u64 v] w fun e w' => e = .returned (.tuple #[.slice none 0 0, .int .i64 1]) ∧ w = w' := by
  by_cases h0 : n < 1
  · go_enter Try.func52, Try.ntmps52
    go_wp2
    go_ret2
    exact ⟨rfl, rfl⟩
  · have h1 : 8 < n := by omega
    go_enter Try.func52, Try.ntmps52
    go_wp2
    go_ret2
    exact ⟨rfl, rfl⟩

set_option maxRecDepth 100000 in
set_option maxHeartbeats 800000 in
theorem refBytes_any (n v : Nat) (w : World) (h1 : 1 ≤ n) (h8 : n ≤ 8) (hv : v < 18446744073709551616) :
    Calls Try.prog 52 #[.int .i64 n, .int .u64 v] w fun e w' => Below w.heap.size w w' ∧
      ((256 ^ n ≤ v ∧ e = .returned (.tuple #[.slice none 0 0, .int .i64 12])) ∨
       (v < 256 ^ n ∧ RBok w w' n v e)) := by
  obtain ⟨i0, hi, hz0, hz1, hz2⟩ := info_parts Try.infoByte
  have HV : Hid (v < 18446744073709551616) := hv
  clear hv
  go_enter Try.func52, Try.ntmps52
  go_wp2
  go_loopw [1, 6, 7] (fun x r ix wr => ∃ k : Nat, k ≤ 8 ∧ ix = .int .i64 k ∧ x = .int .u64 ((v * 256 ^ k % 18446744073709551616 : Nat) : Int) ∧ wr.ownsRow w.heap.size 5 1 r k ((toI ((byN 8 v).take k)).map (Value.int .u8)) ∧ Below w.heap.size w wr) (fun _ _ ix _ => 8 - (intOf ix).toNat)
  case atStart => exact ⟨0, by omega, rfl, by rw [Nat.pow_zero, Nat.mul_one, Nat.mod_eq_of_lt HV.out], World.ownsRow_nil _ _ _ _, Below.refl _ _⟩
  case round =>
    obtain ⟨k, hk, rfl, rfl, hown, hbel⟩ := hrel
    by_cases hlt : k < 8
    · obtain ⟨x, hx⟩ : ∃ x, x = v * 256 ^ k % 18446744073709551616 := ⟨_, rfl⟩
      have hx1 : x < 18446744073709551616 := by rw [hx]; exact Nat.mod_lt _ (by decide)
      have ht : x / 72057594037927936 = v / 256 ^ (7 - k) % 256 := by rw [hx]; exact top_byte v k hlt
      have hn' : x * 256 % 18446744073709551616 = v * 256 ^ (k + 1) % 18446744073709551616 := by rw [hx]; exact next_val v k
      rw [← hx]
      obtain ⟨y, hy⟩ : ∃ y, y = v / 256 ^ (7 - k) % 256 := ⟨_, rfl⟩
      obtain ⟨x1, hx1', q1, e1⟩ := u64_div x hx1
      obtain ⟨x2, hx2, q2, e2⟩ := u64_div x1 hx1'
      obtain ⟨x3, hx3, q3, e3⟩ := u64_div x2 hx2
      obtain ⟨x4, hx4, q4, e4⟩ := u64_div x3 hx3
      obtain ⟨x5, hx5, q5, e5⟩ := u64_div x4 hx4
      obtain ⟨x6, hx6, q6, e6⟩ := u64_div x5 hx5
      obtain ⟨x7, hx7, q7, e7⟩ := u64_div x6 hx6
      obtain rfl : x7 = y := by omega
      have hy256 : x7 < 256 := by omega
      have hm256 : (x7 : Int) % 256 = x7 := by omega
      have hu : IntKind.u8.wrap (x7 : Int) = (x7 : Int) := by rw [IntKind.wrap_u8]; omega
      have hw2 : IntKind.u64.wrap ((x : Int) * 256) = ((v * 256 ^ (k + 1) % 18446744073709551616 : Nat) : Int) := by rw [← hn', ← u64_wrap]; rfl
      have HST : Hid ((toI ((byN 8 v).take (k + 1))).map (Value.int .u8) = (toI ((byN 8 v).take k)).map (Value.int .u8) ++ [.int .u8 (x7 : Int)]) := by
        show _ = _
        rw [byN_take v k hlt, ← hy]; simp [toI]
      obtain ⟨z, hz⟩ : ∃ z, z = v * 256 ^ (k + 1) % 18446744073709551616 := ⟨_, rfl⟩
      rw [← hz] at hw2
      have HZ : Hid (z = v * 256 ^ (k + 1) % 18446744073709551616) := hz
      have HX : Hid (x < 18446744073709551616) := hx1
      clear hx ht hn' hy hz hx1 hx1' hx2 hx3 hx4 hx5 hx6 hx7 e1 e2 e3 e4 e5 e6 e7
      go_wp2_with (first | (at_builtin; refine wpList_append_own _ rfl (.tmp 19) (.tmp 29) 22 rfl w.heap.size 5 i0 (.int .u8 0) 1 1 Try.underlying22 hi hz0 hz1 hz2 rfl (by decide) _ _ _ rfl (hown.alloc _) ⟨wr.heap.size, 0, none⟩ 1 1 [.int .u8 (x7 : Int)] rfl rfl ?c1 ?c2 ?c3 ?c4 ?c5 ?_))
      case c1 => exact cell_one_new _ _ _
      case c2 => intro u hu; simp at hu; subst hu; rfl
      case c3 => unfold maxLen; omega
      case c4 => omega
      case c5 => have := hbel.size; simp; omega
      intro v' w1 hown1 hgrow1 _
      have hbel1 : Below w.heap.size w w1 := (hbel.alloc hbel.size _).grown hgrow1 (by have := hbel.size; simp; omega) (fun j hj => (hown.lt j hj).1)
      rw [← HST.out] at hown1
      clear hgrow1 hown hbel HST
      go_wp2
      go_roundw
      case rel => exact ⟨k + 1, by omega, by go_num, by rw [HZ.out], hown1, hbel1⟩
      case measure => simp [intOf]; omega
    · obtain rfl : k = 8 := by omega
      obtain ⟨x, hx⟩ : ∃ x, x = v * 256 ^ 8 % 18446744073709551616 := ⟨_, rfl⟩
      rw [← hx]
      rw [List.take_of_length_le (by rw [byN_len]; omega)] at hown
      obtain ⟨g, c, rfl⟩ : ∃ g c, u6 = .slice (some ⟨g, 0, none⟩) 8 c := by
        rcases hown.2 with ⟨_, e2⟩ | ⟨g, cap, cur, e, _⟩
        · omega
        · exact ⟨g, cap, e⟩
      have hg := (hown.lt g rfl).1
      have hcap : 8 ≤ c ∧ c ≤ 9223372036854775807 := by
        obtain ⟨_, _, e, _, _, c1, c2⟩ := owns_seg hown
        simp only [Value.slice.injEq, true_and] at e
        unfold maxLen at c2
        omega
      have hseg : Seg .u8 wr (some ⟨g, 0, none⟩) (toI (byN 8 v)) := owns_seg_at hown
      clear hx hown
      go_wp2
      go_loop [8] (fun ix => ∃ i : Nat, i ≤ 8 - n ∧ ix = .int .i64 i ∧ v < 256 ^ (8 - i)) (fun ix => 8 - (intOf ix).toNat)
      case atStart => exact ⟨0, Nat.zero_le _, rfl, HV.out⟩
      case round =>
        obtain ⟨i, hi', rfl, hvi⟩ := hrel
        have HVI : Hid (v < 256 ^ (8 - i)) := hvi
        clear hvi
        by_cases hil : i < 8 - n
        · have hc : wr.cell? ⟨g, i, none⟩ = some (.int .u8 ((v / 256 ^ (7 - i) % 256 : Nat) : Int)) := by
            rcases hseg with e | ⟨b, off, e, hcc⟩
            · have := congrArg List.length e; simp [toI, byN_len] at this
            · simp only [Option.some.injEq, Addr.mk.injEq, and_true] at e
              obtain ⟨rfl, rfl⟩ := e
              have := hcc i (by rw [toI_len, byN_len]; omega)
              rw [Nat.zero_add] at this
              rw [this, toI_getD, byN_get v i (by omega)]
          obtain ⟨y, hy⟩ : ∃ y, y = v / 256 ^ (7 - i) % 256 := ⟨_, rfl⟩
          rw [← hy] at hc
          have HY : Hid (y = v / 256 ^ (7 - i) % 256) := hy
          clear hy
          by_cases hy0 : y = 0
          · have hb : ((y : Int) != 0) = false := by rw [hy0]; rfl
            have HY0 : Hid (y = 0) := hy0
            clear hy0
            go_wp2
            go_round
            case rel => exact ⟨i + 1, by omega, by go_num, digit_step v i HVI.out (by omega) (by rw [← HY.out]; exact HY0.out)⟩
            case measure => simp [intOf]; omega
          · have hb : ((y : Int) != 0) = true := by rw [bne_iff_ne]; omega
            have HY0 : Hid (y ≠ 0) := hy0
            clear hy0
            go_wp2
            go_ret2
            exact ⟨hbel, .inl ⟨digit_big v n i hil (by rw [← HY.out]; exact HY0.out), rfl⟩⟩
        · have hin : i = 8 - n := by omega
          have hsub : (8 : Int) - (n : Int) = ((8 - n : Nat) : Int) := by omega
          have HI : Hid (i = 8 - n) := hin
          obtain ⟨d, hd⟩ : ∃ d, d = 8 - n := ⟨_, rfl⟩
          rw [← hd] at hsub
          have HD : Hid (d = 8 - n) := hd
          have hd8 : d ≤ 8 := by omega
          clear hin hd
          go_wp2
          go_ret2
          refine ⟨hbel, .inr ⟨?_, ⟨g, c - d, hg, ?_, ?_⟩⟩⟩
          · have := HVI.out
            rwa [HI.out, show 8 - (8 - n) = n by omega] at this
          · rw [← HD.out]
            have e1 : 8 - d = n := by have := HD.out; omega
            rw [e1]
            simp
          · have := hseg.part d n (by rw [toI_len, byN_len]; have := HD.out; omega)
            rw [← HD.out]
            rw [toI_drop, show (byN 8 v).drop d = byN n v from by rw [HD.out, byN_drop n v h1 h8], List.take_of_length_le (by rw [toI_len, byN_len]; omega)] at this
            rw [Option.map_some, Addr.add_lit, Nat.zero_add] at this
            exact this
end Go.Proofs.Ytcgfdhmegagjdaa
