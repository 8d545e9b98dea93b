/-
  Copied: the bytes in new memory. Place: any number as one of 0 to n - 1.
-/
import Derived.Test.YtbbhnekdejamiaaWide2
import Derived.Test.YtbbhnekdejamiaaSum4a
namespace Go.Proofs.Ytbbhnekdejamiaa.Wd
open Go.RowKit

set_option maxHeartbeats 800000 in
theorem copied_any (a : Option Addr) (n c : Nat) (l : List Nat) (w : World) (hn : l.length = n) (hs : Seg .u8 w a (toI l)) (hm : n ≤ 1099511627776) :
    Calls Try.prog 6 #[.slice a n c] w fun e w' => ∃ v, e = .returned v ∧ OwnB w' w.heap.size v n l ∧ Below w.heap.size w w' := by
  obtain ⟨i0, hi, hz0, hz1, hz2⟩ := info_parts Try.infoByte
  have HL : Hid (l.length = n) := hn
  clear hn
  go_enter Try.func6, Try.ntmps6
  go_wp2_with (first | (at_builtin; refine wpList_append_seg rfl _ _ 26 rfl w.heap.size 5 i0 (.int .u8 0) 1 Try.underlying26 hi hz0 hz1 hz2 rfl (.slice none 0 0) 0 [] rfl (World.ownsRow_nil _ _ _ _) .u8 a n c (toI l) rfl (by rw [toI_len]; exact HL.out) hs (by unfold maxLen; omega) (by omega) (Nat.le_refl _) ?_))
  intro v w1 ho hg
  have ho' : OwnB w1 w.heap.size v n l := by simpa [OwnB] using ho
  have hb : Below w.heap.size w w1 := (Below.refl _ _).grown hg (Nat.le_refl _) (by intro k hk; cases hk)
  go_wp2
  go_ret
  exact ⟨v, rfl, ho', hb⟩
theorem and40 (n : Int) : bits .and .i64 n 1099511627775 = n % 1099511627776 := by
  have h127 : (BitVec.ofInt 64 1099511627775).toNat = 2 ^ 40 - 1 := by decide
  have key : (BitVec.ofInt 64 n &&& BitVec.ofInt 64 1099511627775).toNat = (n % ((2 ^ 64 : Nat) : Int)).toNat % 2 ^ 40 := by
    rw [BitVec.toNat_and, BitVec.toNat_ofInt, h127, Nat.and_two_pow_sub_one_eq_mod]
  show IntKind.i64.wrap ((BitVec.ofInt 64 n &&& BitVec.ofInt 64 1099511627775).toNat : Nat) = n % 1099511627776
  rw [key, IntKind.wrap_i64]
  omega
def pl (i : Int) (n : Nat) : Nat := (i % 1099511627776).toNat % n
theorem pl_lt (i : Int) (n : Nat) (h : 0 < n) : pl i n < n := Nat.mod_lt _ h
theorem place_any (i : Int) (n : Nat) (w : World) (h0 : 0 < n) (hn : n ≤ 1099511627776) :
    Calls Try.prog 27 #[.int .i64 i, .int .i64 (n : Int)] w fun e w' => e = .returned (.int .i64 ((pl i n : Nat) : Int)) ∧ w = w' := by
  have ha := and40 i
  obtain ⟨q, hq⟩ : ∃ q, q = (i % 1099511627776).toNat := ⟨_, rfl⟩
  have ha2 : bits .and .i64 i 1099511627775 = (q : Int) := by rw [ha]; omega
  have hq2 : q < 1099511627776 := by omega
  have HR : Hid (pl i n = q % n) := by show _ = _; rw [pl, hq]
  clear hq ha
  have hn0 : ((n : Int) == 0) = false := by simp; omega
  go_enter Try.func27, Try.ntmps27
  go_wp2
  go_ret
  exact ⟨by rw [HR.out]; rfl, rfl⟩
end Go.Proofs.Ytbbhnekdejamiaa.Wd
