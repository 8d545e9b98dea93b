/-
  RFa R4p: lemmas of the proof of FlowPlays, and walks through the functions that it calls.
-/
import Derived.Test.YtclpeepnngegaaaGreatDoorP00
import Derived.Test.YtclpeepnngegaaaGreatDoorP15
import Derived.Test.YtclpeepnngegaaaGreatDoorP24
namespace Go.Proofs.YtclpeepnngegaaaGreatDoor
open Go.RowKit Go.Maps
theorem low5 (fl : Int) (m : Nat) (hm : m &&& 31 = m) : bits .and .i64 fl (m : Int) = bits .and .i64 (fl % 32) (m : Int) := by
 have key : (BitVec.ofInt 64 fl &&& BitVec.ofInt 64 (m : Int)).toNat = (BitVec.ofInt 64 (fl % 32) &&& BitVec.ofInt 64 (m : Int)).toNat := by
  rw [BitVec.toNat_and, BitVec.toNat_and]
  have hlt : m < 32 := by
   have h := Nat.and_two_pow_sub_one_eq_mod m 5
   have h2 : m &&& 31 = m % 32 := h
   rw [hm] at h2
   omega
  have e1 : (BitVec.ofInt 64 (m : Int)).toNat = m := by
   rw [BitVec.toNat_ofInt]
   omega
  rw [e1]
  have e2 : ∀ A : Nat, A &&& m = (A % 32) &&& m := fun A => by
   have h := Nat.and_two_pow_sub_one_eq_mod A 5
   have h2 : A &&& 31 = A % 32 := h
   rw [← h2, Nat.and_assoc, Nat.and_comm 31 m, hm]
  rw [e2 (BitVec.ofInt 64 fl).toNat, e2 (BitVec.ofInt 64 (fl % 32)).toNat]
  congr 1
  rw [BitVec.toNat_ofInt, BitVec.toNat_ofInt]
  omega
 show IntKind.i64.wrap ((BitVec.ofInt 64 fl &&& BitVec.ofInt 64 (m : Int)).toNat : Nat) = IntKind.i64.wrap ((BitVec.ofInt 64 (fl % 32) &&& BitVec.ofInt 64 (m : Int)).toNat : Nat)
 rw [key]
theorem i64_k (x : Int) (h0 : -1000000000000000000 ≤ x) (h1 : x ≤ 1000000000000000000) : IntKind.i64.wrap x = x := by rw [IntKind.wrap_i64]; omega
def rs (sg : Int) : Int := if sg = 4 then 1 else if sg = 5 then 2 else if sg = 2 then 3 else if sg = 1 then 4 else if sg = 3 then 5 else 6
def gV (v : Int) : Int := if v = -1 then 8 else v
theorem seg_small : ∀ r : Nat, r < 32 → rs (sgN 6 (r : Int)) = (if bits .and .i64 (r : Int) 4 ≠ 0 then 1 else if bits .and .i64 (r : Int) 2 ≠ 0 ∧ bits .and .i64 (r : Int) 1 ≠ 0 then 2 else if bits .and .i64 (r : Int) 2 ≠ 0 ∧ bits .and .i64 (r : Int) 16 ≠ 0 then 3 else if bits .and .i64 (r : Int) 2 ≠ 0 then 4 else if bits .and .i64 (r : Int) 1 ≠ 0 then 5 else 6) := by decide +kernel
theorem seg_all (fl : Int) : rs (sgN 6 fl) = (if bits .and .i64 fl 4 ≠ 0 then 1 else if bits .and .i64 fl 2 ≠ 0 ∧ bits .and .i64 fl 1 ≠ 0 then 2 else if bits .and .i64 fl 2 ≠ 0 ∧ bits .and .i64 fl 16 ≠ 0 then 3 else if bits .and .i64 fl 2 ≠ 0 then 4 else if bits .and .i64 fl 1 ≠ 0 then 5 else 6) := by
 have e : sgN 6 fl = sgN 6 (fl % 32) := by
  unfold sgN hasB
  have a4 := low5 fl 4 (by decide)
  have a3 := low5 fl 3 (by decide)
  have a18 := low5 fl 18 (by decide)
  have a2 := low5 fl 2 (by decide)
  have a1 := low5 fl 1 (by decide)
  simp only [Int.cast_ofNat_Int] at a4 a3 a18 a2 a1
  rw [a4, a3, a18, a2, a1]
 have b4 := low5 fl 4 (by decide)
 have b2 := low5 fl 2 (by decide)
 have b1 := low5 fl 1 (by decide)
 have b16 := low5 fl 16 (by decide)
 simp only [Int.cast_ofNat_Int] at b4 b2 b1 b16
 rw [b4, b2, b1, b16, e]
 obtain ⟨r, hr⟩ : ∃ r : Nat, fl % 32 = (r : Int) := ⟨(fl % 32).toNat, by omega⟩
 rw [hr]
 exact seg_small r (by omega)
set_option maxHeartbeats 1600000 in
set_option maxRecDepth 100000 in
theorem segR_any (fl : Int) (w : World) : Calls Tryz.prog 33 #[.int .i64 fl] w fun r w' => r = .returned (.int .i64 (rs (sgN 6 fl))) ∧ w = w' := by
 have hs := seg_all fl
 obtain ⟨r, hr⟩ : ∃ r, rs (sgN 6 fl) = r := ⟨_, rfl⟩
 rw [hr] at hs ⊢
 obtain ⟨m4, h4⟩ : ∃ m, bits .and .i64 fl 4 = m := ⟨_, rfl⟩
 obtain ⟨m2, h2⟩ : ∃ m, bits .and .i64 fl 2 = m := ⟨_, rfl⟩
 obtain ⟨m1, h1⟩ : ∃ m, bits .and .i64 fl 1 = m := ⟨_, rfl⟩
 obtain ⟨m16, h16⟩ : ∃ m, bits .and .i64 fl 16 = m := ⟨_, rfl⟩
 rw [h4, h2, h1, h16] at hs
 have HS : Hid (r = _) := hs
 clear hs hr
 go_enter Tryz.func33, Tryz.ntmps33
 by_cases c1 : m1 = 0
 · have t1 : (m1 != 0) = false := by rw [c1]; rfl
   by_cases c2 : m2 = 0
   · have t2 : (m2 != 0) = false := by rw [c2]; rfl
     by_cases c4 : m4 = 0
     · have t4 : (m4 != 0) = false := by rw [c4]; rfl
       have HR : Hid (r = 6) := by have h := HS.out; rw [if_neg (by omega), if_neg (by omega), if_neg (by omega), if_neg (by omega), if_neg (by omega)] at h; exact h
       clear c1 c2 c4
       go_wp2
       go_ret
       exact ⟨by have h := HR.out; subst h; rfl, rfl⟩
     · have t4 : (m4 != 0) = true := by simpa using c4
       have HR : Hid (r = 1) := by have h := HS.out; rw [if_pos c4] at h; exact h
       clear c1 c2 c4
       go_wp2
       go_ret
       exact ⟨by have h := HR.out; subst h; rfl, rfl⟩
   · have t2 : (m2 != 0) = true := by simpa using c2
     by_cases c4 : m4 = 0
     · have t4 : (m4 != 0) = false := by rw [c4]; rfl
       by_cases c16 : m16 = 0
       · have t16 : (m16 != 0) = false := by rw [c16]; rfl
         have HR : Hid (r = 4) := by have h := HS.out; rw [if_neg (by omega), if_neg (by omega), if_neg (by omega), if_pos (by omega)] at h; exact h
         clear c1 c2 c4 c16
         go_wp2
         go_ret
         exact ⟨by have h := HR.out; subst h; rfl, rfl⟩
       · have t16 : (m16 != 0) = true := by simpa using c16
         have HR : Hid (r = 3) := by have h := HS.out; rw [if_neg (by omega), if_neg (by omega), if_pos (by omega)] at h; exact h
         clear c1 c2 c4 c16
         go_wp2
         go_ret
         exact ⟨by have h := HR.out; subst h; rfl, rfl⟩
     · have t4 : (m4 != 0) = true := by simpa using c4
       have HR : Hid (r = 1) := by have h := HS.out; rw [if_pos c4] at h; exact h
       clear c1 c2 c4
       go_wp2
       go_ret
       exact ⟨by have h := HR.out; subst h; rfl, rfl⟩
 · have t1 : (m1 != 0) = true := by simpa using c1
   by_cases c4 : m4 = 0
   · have t4 : (m4 != 0) = false := by rw [c4]; rfl
     by_cases c2 : m2 = 0
     · have t2 : (m2 != 0) = false := by rw [c2]; rfl
       have HR : Hid (r = 5) := by have h := HS.out; rw [if_neg (by omega), if_neg (by omega), if_neg (by omega), if_neg (by omega), if_pos (by omega)] at h; exact h
       clear c1 c2 c4
       go_wp2
       go_ret
       exact ⟨by have h := HR.out; subst h; rfl, rfl⟩
     · have t2 : (m2 != 0) = true := by simpa using c2
       have HR : Hid (r = 2) := by have h := HS.out; rw [if_neg (by omega), if_pos (by omega)] at h; exact h
       clear c1 c2 c4
       go_wp2
       go_ret
       exact ⟨by have h := HR.out; subst h; rfl, rfl⟩
   · have t4 : (m4 != 0) = true := by simpa using c4
     have HR : Hid (r = 1) := by have h := HS.out; rw [if_pos c4] at h; exact h
     clear c1 c4
     by_cases c2 : m2 = 0
     · have t2 : (m2 != 0) = false := by rw [c2]; rfl
       clear c2
       go_wp2
       go_ret
       exact ⟨by have h := HR.out; subst h; rfl, rfl⟩
     · have t2 : (m2 != 0) = true := by simpa using c2
       clear c2
       go_wp2
       go_ret
       exact ⟨by have h := HR.out; subst h; rfl, rfl⟩
theorem goes_10 (w : World) : Calls Tryz.prog 32 #[.int .i64 1, .int .i64 6] w fun r w' => r = .returned (.int .i64 0) ∧ w = w' := by
 go_enter Tryz.func32, Tryz.ntmps32
 go_wp2
 go_ret
 exact ⟨rfl, rfl⟩
theorem goes_11 (w : World) : Calls Tryz.prog 32 #[.int .i64 1, .int .i64 4] w fun r w' => r = .returned (.int .i64 1) ∧ w = w' := by
 go_enter Tryz.func32, Tryz.ntmps32
 go_wp2
 go_ret
 exact ⟨rfl, rfl⟩
theorem goes_12 (w : World) : Calls Tryz.prog 32 #[.int .i64 1, .int .i64 3] w fun r w' => r = .returned (.int .i64 0) ∧ w = w' := by
 go_enter Tryz.func32, Tryz.ntmps32
 go_wp2
 go_ret
 exact ⟨rfl, rfl⟩
theorem goes_13 (w : World) : Calls Tryz.prog 32 #[.int .i64 1, .int .i64 5] w fun r w' => r = .returned (.int .i64 0) ∧ w = w' := by
 go_enter Tryz.func32, Tryz.ntmps32
 go_wp2
 go_ret
 exact ⟨rfl, rfl⟩
theorem goes_14 (w : World) : Calls Tryz.prog 32 #[.int .i64 1, .int .i64 1] w fun r w' => r = .returned (.int .i64 8) ∧ w = w' := by
 go_enter Tryz.func32, Tryz.ntmps32
 go_wp2
 go_ret
 exact ⟨rfl, rfl⟩
theorem goes_15 (w : World) : Calls Tryz.prog 32 #[.int .i64 1, .int .i64 2] w fun r w' => r = .returned (.int .i64 0) ∧ w = w' := by
 go_enter Tryz.func32, Tryz.ntmps32
 go_wp2
 go_ret
 exact ⟨rfl, rfl⟩
theorem goes_20 (w : World) : Calls Tryz.prog 32 #[.int .i64 2, .int .i64 6] w fun r w' => r = .returned (.int .i64 3) ∧ w = w' := by
 go_enter Tryz.func32, Tryz.ntmps32
 go_wp2
 go_ret
 exact ⟨rfl, rfl⟩
theorem goes_21 (w : World) : Calls Tryz.prog 32 #[.int .i64 2, .int .i64 4] w fun r w' => r = .returned (.int .i64 2) ∧ w = w' := by
 go_enter Tryz.func32, Tryz.ntmps32
 go_wp2
 go_ret
 exact ⟨rfl, rfl⟩
theorem goes_22 (w : World) : Calls Tryz.prog 32 #[.int .i64 2, .int .i64 3] w fun r w' => r = .returned (.int .i64 0) ∧ w = w' := by
 go_enter Tryz.func32, Tryz.ntmps32
 go_wp2
 go_ret
 exact ⟨rfl, rfl⟩
theorem goes_23 (w : World) : Calls Tryz.prog 32 #[.int .i64 2, .int .i64 5] w fun r w' => r = .returned (.int .i64 4) ∧ w = w' := by
 go_enter Tryz.func32, Tryz.ntmps32
 go_wp2
 go_ret
 exact ⟨rfl, rfl⟩
theorem goes_24 (w : World) : Calls Tryz.prog 32 #[.int .i64 2, .int .i64 1] w fun r w' => r = .returned (.int .i64 8) ∧ w = w' := by
 go_enter Tryz.func32, Tryz.ntmps32
 go_wp2
 go_ret
 exact ⟨rfl, rfl⟩
theorem goes_25 (w : World) : Calls Tryz.prog 32 #[.int .i64 2, .int .i64 2] w fun r w' => r = .returned (.int .i64 0) ∧ w = w' := by
 go_enter Tryz.func32, Tryz.ntmps32
 go_wp2
 go_ret
 exact ⟨rfl, rfl⟩
theorem goes_30 (w : World) : Calls Tryz.prog 32 #[.int .i64 3, .int .i64 6] w fun r w' => r = .returned (.int .i64 3) ∧ w = w' := by
 go_enter Tryz.func32, Tryz.ntmps32
 go_wp2
 go_ret
 exact ⟨rfl, rfl⟩
theorem goes_31 (w : World) : Calls Tryz.prog 32 #[.int .i64 3, .int .i64 4] w fun r w' => r = .returned (.int .i64 0) ∧ w = w' := by
 go_enter Tryz.func32, Tryz.ntmps32
 go_wp2
 go_ret
 exact ⟨rfl, rfl⟩
theorem goes_32 (w : World) : Calls Tryz.prog 32 #[.int .i64 3, .int .i64 3] w fun r w' => r = .returned (.int .i64 0) ∧ w = w' := by
 go_enter Tryz.func32, Tryz.ntmps32
 go_wp2
 go_ret
 exact ⟨rfl, rfl⟩
theorem goes_33 (w : World) : Calls Tryz.prog 32 #[.int .i64 3, .int .i64 5] w fun r w' => r = .returned (.int .i64 4) ∧ w = w' := by
 go_enter Tryz.func32, Tryz.ntmps32
 go_wp2
 go_ret
 exact ⟨rfl, rfl⟩
theorem goes_34 (w : World) : Calls Tryz.prog 32 #[.int .i64 3, .int .i64 1] w fun r w' => r = .returned (.int .i64 8) ∧ w = w' := by
 go_enter Tryz.func32, Tryz.ntmps32
 go_wp2
 go_ret
 exact ⟨rfl, rfl⟩
theorem goes_35 (w : World) : Calls Tryz.prog 32 #[.int .i64 3, .int .i64 2] w fun r w' => r = .returned (.int .i64 0) ∧ w = w' := by
 go_enter Tryz.func32, Tryz.ntmps32
 go_wp2
 go_ret
 exact ⟨rfl, rfl⟩
theorem goes_40 (w : World) : Calls Tryz.prog 32 #[.int .i64 4, .int .i64 6] w fun r w' => r = .returned (.int .i64 4) ∧ w = w' := by
 go_enter Tryz.func32, Tryz.ntmps32
 go_wp2
 go_ret
 exact ⟨rfl, rfl⟩
theorem goes_41 (w : World) : Calls Tryz.prog 32 #[.int .i64 4, .int .i64 4] w fun r w' => r = .returned (.int .i64 0) ∧ w = w' := by
 go_enter Tryz.func32, Tryz.ntmps32
 go_wp2
 go_ret
 exact ⟨rfl, rfl⟩
theorem goes_42 (w : World) : Calls Tryz.prog 32 #[.int .i64 4, .int .i64 3] w fun r w' => r = .returned (.int .i64 0) ∧ w = w' := by
 go_enter Tryz.func32, Tryz.ntmps32
 go_wp2
 go_ret
 exact ⟨rfl, rfl⟩
theorem goes_43 (w : World) : Calls Tryz.prog 32 #[.int .i64 4, .int .i64 5] w fun r w' => r = .returned (.int .i64 4) ∧ w = w' := by
 go_enter Tryz.func32, Tryz.ntmps32
 go_wp2
 go_ret
 exact ⟨rfl, rfl⟩
theorem goes_44 (w : World) : Calls Tryz.prog 32 #[.int .i64 4, .int .i64 1] w fun r w' => r = .returned (.int .i64 8) ∧ w = w' := by
 go_enter Tryz.func32, Tryz.ntmps32
 go_wp2
 go_ret
 exact ⟨rfl, rfl⟩
theorem goes_45 (w : World) : Calls Tryz.prog 32 #[.int .i64 4, .int .i64 2] w fun r w' => r = .returned (.int .i64 0) ∧ w = w' := by
 go_enter Tryz.func32, Tryz.ntmps32
 go_wp2
 go_ret
 exact ⟨rfl, rfl⟩
theorem goes_50 (w : World) : Calls Tryz.prog 32 #[.int .i64 5, .int .i64 6] w fun r w' => r = .returned (.int .i64 5) ∧ w = w' := by
 go_enter Tryz.func32, Tryz.ntmps32
 go_wp2
 go_ret
 exact ⟨rfl, rfl⟩
theorem goes_51 (w : World) : Calls Tryz.prog 32 #[.int .i64 5, .int .i64 4] w fun r w' => r = .returned (.int .i64 0) ∧ w = w' := by
 go_enter Tryz.func32, Tryz.ntmps32
 go_wp2
 go_ret
 exact ⟨rfl, rfl⟩
theorem goes_52 (w : World) : Calls Tryz.prog 32 #[.int .i64 5, .int .i64 3] w fun r w' => r = .returned (.int .i64 0) ∧ w = w' := by
 go_enter Tryz.func32, Tryz.ntmps32
 go_wp2
 go_ret
 exact ⟨rfl, rfl⟩
theorem goes_53 (w : World) : Calls Tryz.prog 32 #[.int .i64 5, .int .i64 5] w fun r w' => r = .returned (.int .i64 6) ∧ w = w' := by
 go_enter Tryz.func32, Tryz.ntmps32
 go_wp2
 go_ret
 exact ⟨rfl, rfl⟩
theorem goes_54 (w : World) : Calls Tryz.prog 32 #[.int .i64 5, .int .i64 1] w fun r w' => r = .returned (.int .i64 8) ∧ w = w' := by
 go_enter Tryz.func32, Tryz.ntmps32
 go_wp2
 go_ret
 exact ⟨rfl, rfl⟩
theorem goes_55 (w : World) : Calls Tryz.prog 32 #[.int .i64 5, .int .i64 2] w fun r w' => r = .returned (.int .i64 0) ∧ w = w' := by
 go_enter Tryz.func32, Tryz.ntmps32
 go_wp2
 go_ret
 exact ⟨rfl, rfl⟩
theorem goes_60 (w : World) : Calls Tryz.prog 32 #[.int .i64 6, .int .i64 6] w fun r w' => r = .returned (.int .i64 6) ∧ w = w' := by
 go_enter Tryz.func32, Tryz.ntmps32
 go_wp2
 go_ret
 exact ⟨rfl, rfl⟩
theorem goes_61 (w : World) : Calls Tryz.prog 32 #[.int .i64 6, .int .i64 4] w fun r w' => r = .returned (.int .i64 1) ∧ w = w' := by
 go_enter Tryz.func32, Tryz.ntmps32
 go_wp2
 go_ret
 exact ⟨rfl, rfl⟩
theorem goes_62 (w : World) : Calls Tryz.prog 32 #[.int .i64 6, .int .i64 3] w fun r w' => r = .returned (.int .i64 0) ∧ w = w' := by
 go_enter Tryz.func32, Tryz.ntmps32
 go_wp2
 go_ret
 exact ⟨rfl, rfl⟩
theorem goes_63 (w : World) : Calls Tryz.prog 32 #[.int .i64 6, .int .i64 5] w fun r w' => r = .returned (.int .i64 6) ∧ w = w' := by
 go_enter Tryz.func32, Tryz.ntmps32
 go_wp2
 go_ret
 exact ⟨rfl, rfl⟩
theorem goes_64 (w : World) : Calls Tryz.prog 32 #[.int .i64 6, .int .i64 1] w fun r w' => r = .returned (.int .i64 8) ∧ w = w' := by
 go_enter Tryz.func32, Tryz.ntmps32
 go_wp2
 go_ret
 exact ⟨rfl, rfl⟩
theorem goes_65 (w : World) : Calls Tryz.prog 32 #[.int .i64 6, .int .i64 2] w fun r w' => r = .returned (.int .i64 0) ∧ w = w' := by
 go_enter Tryz.func32, Tryz.ntmps32
 go_wp2
 go_ret
 exact ⟨rfl, rfl⟩
theorem goes_any (st sg : Int) (w : World) (h1 : 1 ≤ st ∧ st ≤ 6) (h2 : 0 ≤ sg ∧ sg < 6) : Calls Tryz.prog 32 #[.int .i64 st, .int .i64 (rs sg)] w fun r w' => r = .returned (.int .i64 (gV (oT st sg))) ∧ w = w' := by
 have hst : st = 1 ∨ st = 2 ∨ st = 3 ∨ st = 4 ∨ st = 5 ∨ st = 6 := by omega
 have hsg : sg = 0 ∨ sg = 1 ∨ sg = 2 ∨ sg = 3 ∨ sg = 4 ∨ sg = 5 := by omega
 rcases hst with rfl | rfl | rfl | rfl | rfl | rfl <;> rcases hsg with rfl | rfl | rfl | rfl | rfl | rfl
 · exact goes_10 w
 · exact goes_11 w
 · exact goes_12 w
 · exact goes_13 w
 · exact goes_14 w
 · exact goes_15 w
 · exact goes_20 w
 · exact goes_21 w
 · exact goes_22 w
 · exact goes_23 w
 · exact goes_24 w
 · exact goes_25 w
 · exact goes_30 w
 · exact goes_31 w
 · exact goes_32 w
 · exact goes_33 w
 · exact goes_34 w
 · exact goes_35 w
 · exact goes_40 w
 · exact goes_41 w
 · exact goes_42 w
 · exact goes_43 w
 · exact goes_44 w
 · exact goes_45 w
 · exact goes_50 w
 · exact goes_51 w
 · exact goes_52 w
 · exact goes_53 w
 · exact goes_54 w
 · exact goes_55 w
 · exact goes_60 w
 · exact goes_61 w
 · exact goes_62 w
 · exact goes_63 w
 · exact goes_64 w
 · exact goes_65 w
theorem comes_10 (w : World) : Calls Tryz.prog 39 #[.int .i64 1, .int .i64 6] w fun r w' => r = .returned (.int .i64 0) ∧ w = w' := by
 go_enter Tryz.func39, Tryz.ntmps39
 go_wp2
 go_ret
 exact ⟨rfl, rfl⟩
theorem comes_11 (w : World) : Calls Tryz.prog 39 #[.int .i64 1, .int .i64 4] w fun r w' => r = .returned (.int .i64 0) ∧ w = w' := by
 go_enter Tryz.func39, Tryz.ntmps39
 go_wp2
 go_ret
 exact ⟨rfl, rfl⟩
theorem comes_12 (w : World) : Calls Tryz.prog 39 #[.int .i64 1, .int .i64 3] w fun r w' => r = .returned (.int .i64 2) ∧ w = w' := by
 go_enter Tryz.func39, Tryz.ntmps39
 go_wp2
 go_ret
 exact ⟨rfl, rfl⟩
theorem comes_13 (w : World) : Calls Tryz.prog 39 #[.int .i64 1, .int .i64 5] w fun r w' => r = .returned (.int .i64 0) ∧ w = w' := by
 go_enter Tryz.func39, Tryz.ntmps39
 go_wp2
 go_ret
 exact ⟨rfl, rfl⟩
theorem comes_14 (w : World) : Calls Tryz.prog 39 #[.int .i64 1, .int .i64 1] w fun r w' => r = .returned (.int .i64 8) ∧ w = w' := by
 go_enter Tryz.func39, Tryz.ntmps39
 go_wp2
 go_ret
 exact ⟨rfl, rfl⟩
theorem comes_15 (w : World) : Calls Tryz.prog 39 #[.int .i64 1, .int .i64 2] w fun r w' => r = .returned (.int .i64 0) ∧ w = w' := by
 go_enter Tryz.func39, Tryz.ntmps39
 go_wp2
 go_ret
 exact ⟨rfl, rfl⟩
theorem comes_20 (w : World) : Calls Tryz.prog 39 #[.int .i64 2, .int .i64 6] w fun r w' => r = .returned (.int .i64 2) ∧ w = w' := by
 go_enter Tryz.func39, Tryz.ntmps39
 go_wp2
 go_ret
 exact ⟨rfl, rfl⟩
theorem comes_21 (w : World) : Calls Tryz.prog 39 #[.int .i64 2, .int .i64 4] w fun r w' => r = .returned (.int .i64 0) ∧ w = w' := by
 go_enter Tryz.func39, Tryz.ntmps39
 go_wp2
 go_ret
 exact ⟨rfl, rfl⟩
theorem comes_22 (w : World) : Calls Tryz.prog 39 #[.int .i64 2, .int .i64 3] w fun r w' => r = .returned (.int .i64 2) ∧ w = w' := by
 go_enter Tryz.func39, Tryz.ntmps39
 go_wp2
 go_ret
 exact ⟨rfl, rfl⟩
theorem comes_23 (w : World) : Calls Tryz.prog 39 #[.int .i64 2, .int .i64 5] w fun r w' => r = .returned (.int .i64 5) ∧ w = w' := by
 go_enter Tryz.func39, Tryz.ntmps39
 go_wp2
 go_ret
 exact ⟨rfl, rfl⟩
theorem comes_24 (w : World) : Calls Tryz.prog 39 #[.int .i64 2, .int .i64 1] w fun r w' => r = .returned (.int .i64 8) ∧ w = w' := by
 go_enter Tryz.func39, Tryz.ntmps39
 go_wp2
 go_ret
 exact ⟨rfl, rfl⟩
theorem comes_25 (w : World) : Calls Tryz.prog 39 #[.int .i64 2, .int .i64 2] w fun r w' => r = .returned (.int .i64 0) ∧ w = w' := by
 go_enter Tryz.func39, Tryz.ntmps39
 go_wp2
 go_ret
 exact ⟨rfl, rfl⟩
theorem comes_30 (w : World) : Calls Tryz.prog 39 #[.int .i64 3, .int .i64 6] w fun r w' => r = .returned (.int .i64 3) ∧ w = w' := by
 go_enter Tryz.func39, Tryz.ntmps39
 go_wp2
 go_ret
 exact ⟨rfl, rfl⟩
theorem comes_31 (w : World) : Calls Tryz.prog 39 #[.int .i64 3, .int .i64 4] w fun r w' => r = .returned (.int .i64 0) ∧ w = w' := by
 go_enter Tryz.func39, Tryz.ntmps39
 go_wp2
 go_ret
 exact ⟨rfl, rfl⟩
theorem comes_32 (w : World) : Calls Tryz.prog 39 #[.int .i64 3, .int .i64 3] w fun r w' => r = .returned (.int .i64 0) ∧ w = w' := by
 go_enter Tryz.func39, Tryz.ntmps39
 go_wp2
 go_ret
 exact ⟨rfl, rfl⟩
theorem comes_33 (w : World) : Calls Tryz.prog 39 #[.int .i64 3, .int .i64 5] w fun r w' => r = .returned (.int .i64 5) ∧ w = w' := by
 go_enter Tryz.func39, Tryz.ntmps39
 go_wp2
 go_ret
 exact ⟨rfl, rfl⟩
theorem comes_34 (w : World) : Calls Tryz.prog 39 #[.int .i64 3, .int .i64 1] w fun r w' => r = .returned (.int .i64 8) ∧ w = w' := by
 go_enter Tryz.func39, Tryz.ntmps39
 go_wp2
 go_ret
 exact ⟨rfl, rfl⟩
theorem comes_35 (w : World) : Calls Tryz.prog 39 #[.int .i64 3, .int .i64 2] w fun r w' => r = .returned (.int .i64 0) ∧ w = w' := by
 go_enter Tryz.func39, Tryz.ntmps39
 go_wp2
 go_ret
 exact ⟨rfl, rfl⟩
theorem comes_40 (w : World) : Calls Tryz.prog 39 #[.int .i64 4, .int .i64 6] w fun r w' => r = .returned (.int .i64 4) ∧ w = w' := by
 go_enter Tryz.func39, Tryz.ntmps39
 go_wp2
 go_ret
 exact ⟨rfl, rfl⟩
theorem comes_41 (w : World) : Calls Tryz.prog 39 #[.int .i64 4, .int .i64 4] w fun r w' => r = .returned (.int .i64 0) ∧ w = w' := by
 go_enter Tryz.func39, Tryz.ntmps39
 go_wp2
 go_ret
 exact ⟨rfl, rfl⟩
theorem comes_42 (w : World) : Calls Tryz.prog 39 #[.int .i64 4, .int .i64 3] w fun r w' => r = .returned (.int .i64 0) ∧ w = w' := by
 go_enter Tryz.func39, Tryz.ntmps39
 go_wp2
 go_ret
 exact ⟨rfl, rfl⟩
theorem comes_43 (w : World) : Calls Tryz.prog 39 #[.int .i64 4, .int .i64 5] w fun r w' => r = .returned (.int .i64 6) ∧ w = w' := by
 go_enter Tryz.func39, Tryz.ntmps39
 go_wp2
 go_ret
 exact ⟨rfl, rfl⟩
theorem comes_44 (w : World) : Calls Tryz.prog 39 #[.int .i64 4, .int .i64 1] w fun r w' => r = .returned (.int .i64 8) ∧ w = w' := by
 go_enter Tryz.func39, Tryz.ntmps39
 go_wp2
 go_ret
 exact ⟨rfl, rfl⟩
theorem comes_45 (w : World) : Calls Tryz.prog 39 #[.int .i64 4, .int .i64 2] w fun r w' => r = .returned (.int .i64 0) ∧ w = w' := by
 go_enter Tryz.func39, Tryz.ntmps39
 go_wp2
 go_ret
 exact ⟨rfl, rfl⟩
theorem comes_50 (w : World) : Calls Tryz.prog 39 #[.int .i64 5, .int .i64 6] w fun r w' => r = .returned (.int .i64 5) ∧ w = w' := by
 go_enter Tryz.func39, Tryz.ntmps39
 go_wp2
 go_ret
 exact ⟨rfl, rfl⟩
theorem comes_51 (w : World) : Calls Tryz.prog 39 #[.int .i64 5, .int .i64 4] w fun r w' => r = .returned (.int .i64 0) ∧ w = w' := by
 go_enter Tryz.func39, Tryz.ntmps39
 go_wp2
 go_ret
 exact ⟨rfl, rfl⟩
theorem comes_52 (w : World) : Calls Tryz.prog 39 #[.int .i64 5, .int .i64 3] w fun r w' => r = .returned (.int .i64 0) ∧ w = w' := by
 go_enter Tryz.func39, Tryz.ntmps39
 go_wp2
 go_ret
 exact ⟨rfl, rfl⟩
theorem comes_53 (w : World) : Calls Tryz.prog 39 #[.int .i64 5, .int .i64 5] w fun r w' => r = .returned (.int .i64 5) ∧ w = w' := by
 go_enter Tryz.func39, Tryz.ntmps39
 go_wp2
 go_ret
 exact ⟨rfl, rfl⟩
theorem comes_54 (w : World) : Calls Tryz.prog 39 #[.int .i64 5, .int .i64 1] w fun r w' => r = .returned (.int .i64 8) ∧ w = w' := by
 go_enter Tryz.func39, Tryz.ntmps39
 go_wp2
 go_ret
 exact ⟨rfl, rfl⟩
theorem comes_55 (w : World) : Calls Tryz.prog 39 #[.int .i64 5, .int .i64 2] w fun r w' => r = .returned (.int .i64 0) ∧ w = w' := by
 go_enter Tryz.func39, Tryz.ntmps39
 go_wp2
 go_ret
 exact ⟨rfl, rfl⟩
theorem comes_60 (w : World) : Calls Tryz.prog 39 #[.int .i64 6, .int .i64 6] w fun r w' => r = .returned (.int .i64 6) ∧ w = w' := by
 go_enter Tryz.func39, Tryz.ntmps39
 go_wp2
 go_ret
 exact ⟨rfl, rfl⟩
theorem comes_61 (w : World) : Calls Tryz.prog 39 #[.int .i64 6, .int .i64 4] w fun r w' => r = .returned (.int .i64 0) ∧ w = w' := by
 go_enter Tryz.func39, Tryz.ntmps39
 go_wp2
 go_ret
 exact ⟨rfl, rfl⟩
theorem comes_62 (w : World) : Calls Tryz.prog 39 #[.int .i64 6, .int .i64 3] w fun r w' => r = .returned (.int .i64 0) ∧ w = w' := by
 go_enter Tryz.func39, Tryz.ntmps39
 go_wp2
 go_ret
 exact ⟨rfl, rfl⟩
theorem comes_63 (w : World) : Calls Tryz.prog 39 #[.int .i64 6, .int .i64 5] w fun r w' => r = .returned (.int .i64 6) ∧ w = w' := by
 go_enter Tryz.func39, Tryz.ntmps39
 go_wp2
 go_ret
 exact ⟨rfl, rfl⟩
theorem comes_64 (w : World) : Calls Tryz.prog 39 #[.int .i64 6, .int .i64 1] w fun r w' => r = .returned (.int .i64 8) ∧ w = w' := by
 go_enter Tryz.func39, Tryz.ntmps39
 go_wp2
 go_ret
 exact ⟨rfl, rfl⟩
theorem comes_65 (w : World) : Calls Tryz.prog 39 #[.int .i64 6, .int .i64 2] w fun r w' => r = .returned (.int .i64 0) ∧ w = w' := by
 go_enter Tryz.func39, Tryz.ntmps39
 go_wp2
 go_ret
 exact ⟨rfl, rfl⟩
theorem comes_any (st sg : Int) (w : World) (h1 : 1 ≤ st ∧ st ≤ 6) (h2 : 0 ≤ sg ∧ sg < 6) : Calls Tryz.prog 39 #[.int .i64 st, .int .i64 (rs sg)] w fun r w' => r = .returned (.int .i64 (gV (iT st sg))) ∧ w = w' := by
 have hst : st = 1 ∨ st = 2 ∨ st = 3 ∨ st = 4 ∨ st = 5 ∨ st = 6 := by omega
 have hsg : sg = 0 ∨ sg = 1 ∨ sg = 2 ∨ sg = 3 ∨ sg = 4 ∨ sg = 5 := by omega
 rcases hst with rfl | rfl | rfl | rfl | rfl | rfl <;> rcases hsg with rfl | rfl | rfl | rfl | rfl | rfl
 · exact comes_10 w
 · exact comes_11 w
 · exact comes_12 w
 · exact comes_13 w
 · exact comes_14 w
 · exact comes_15 w
 · exact comes_20 w
 · exact comes_21 w
 · exact comes_22 w
 · exact comes_23 w
 · exact comes_24 w
 · exact comes_25 w
 · exact comes_30 w
 · exact comes_31 w
 · exact comes_32 w
 · exact comes_33 w
 · exact comes_34 w
 · exact comes_35 w
 · exact comes_40 w
 · exact comes_41 w
 · exact comes_42 w
 · exact comes_43 w
 · exact comes_44 w
 · exact comes_45 w
 · exact comes_50 w
 · exact comes_51 w
 · exact comes_52 w
 · exact comes_53 w
 · exact comes_54 w
 · exact comes_55 w
 · exact comes_60 w
 · exact comes_61 w
 · exact comes_62 w
 · exact comes_63 w
 · exact comes_64 w
 · exact comes_65 w
def ecN (v : Int) : Int := if v = 4 then 1 else 58
theorem echoR_any (v : Int) (w : World) : Calls Tryz.prog 53 #[.int .i64 v] w fun r w' => r = .returned (.int .i64 (ecN v)) ∧ w = w' := by
 obtain ⟨r, hr⟩ : ∃ r, ecN v = r := ⟨_, rfl⟩
 have HR : Hid (ecN v = r) := hr
 rw [hr]
 clear hr
 go_enter Tryz.func53, Tryz.ntmps53
 by_cases h : v = 4
 · have q : (v == 4) = true := by simpa using h
   have HV : Hid (v = 4) := h
   clear h
   go_wp2
   go_ret
   exact ⟨by have h := HR.out; rw [HV.out] at h; subst h; rfl, rfl⟩
 · have q : (v == 4) = false := by simpa using h
   have HV : Hid (¬ v = 4) := h
   clear h
   go_wp2
   go_ret
   exact ⟨by have h := HR.out; unfold ecN at h; rw [if_neg HV.out] at h; subst h; rfl, rfl⟩
end Go.Proofs.YtclpeepnngegaaaGreatDoor
namespace Go.Proofs.YtclpeepnngegaaaGreatDoor
open Go.RowKit Go.Maps
theorem topA (a m : Nat) (h : m < 8) : a / 2 ^ (8 - (m + 1)) = 2 * (a / 2 ^ (8 - m)) + a / 2 ^ (7 - m) % 2 := by
 rw [show 8 - (m + 1) = 7 - m by omega, show 8 - m = (7 - m) + 1 by omega, Nat.pow_succ, ← Nat.div_div_eq_div_mul]
 omega
theorem top_iff {a b : Nat} (ha : a < 256) (hb : b < 256) : ∀ m, m ≤ 8 → ((∀ i, i < m → a / 2 ^ (7 - i) % 2 = b / 2 ^ (7 - i) % 2) ↔ a / 2 ^ (8 - m) = b / 2 ^ (8 - m))
 | 0, _ => by
  have e1 : a / 2 ^ (8 - 0) = 0 := Nat.div_eq_of_lt (by simpa using ha)
  have e2 : b / 2 ^ (8 - 0) = 0 := Nat.div_eq_of_lt (by simpa using hb)
  rw [e1, e2]
  exact ⟨fun _ => rfl, fun _ i hi => by omega⟩
 | m + 1, h => by
  have ih := top_iff ha hb m (by omega)
  have k1 := topA a m (by omega)
  have k2 := topA b m (by omega)
  constructor
  · intro hall
    have h1 := ih.1 (fun i hi => hall i (by omega))
    have h2 := hall m (by omega)
    omega
  · intro heq i hi
    have h1 : a / 2 ^ (8 - m) = b / 2 ^ (8 - m) := by omega
    by_cases him : i = m
    · subst him; omega
    · exact ih.2 h1 i (by omega)
theorem mk_fin : ∀ (m : Fin 9) (a : Fin 256), a.val &&& (255 * 2 ^ (8 - m.val) % 256) = a.val / 2 ^ (8 - m.val) * 2 ^ (8 - m.val) := by decide +kernel
theorem hd_top (x : Nat → Nat) (n j : Nat) (hx : x j < 256) : hdA x n j = x j / 2 ^ (8 - min 8 (n - 8 * j)) * 2 ^ (8 - min 8 (n - 8 * j)) := by
 unfold hdA
 split
 · rename_i h
   rw [show min 8 (n - 8 * j) = 8 by omega]
   simp
 · rename_i h
   unfold mkA
   rw [show min 8 (n - 8 * j) = n - 8 * j by omega]
   exact mk_fin ⟨n - 8 * j, by omega⟩ ⟨x j, hx⟩
theorem bits_iff {x p : Nat → Nat} {n : Nat} (hn : n ≤ 128) (hx : ∀ i, i < 16 → x i < 256) (hp : ∀ i, i < 16 → p i < 256) : ((List.range n).all fun i => btN p i == btN x i) = true ↔ ∀ j, j < 16 → hdA x n j = hdA p n j := by
 rw [List.all_eq_true]
 constructor
 · intro h j hj
   rw [hd_top x n j (hx j hj), hd_top p n j (hp j hj)]
   have := (top_iff (hp j hj) (hx j hj) (min 8 (n - 8 * j)) (by omega)).1 (fun i hi => by
    have h1 := h (8 * j + i) (List.mem_range.2 (by omega))
    simp only [btN, beq_iff_eq] at h1
    rw [show (8 * j + i) / 8 = j by omega, show (8 * j + i) % 8 = i by omega] at h1
    exact h1)
   rw [this]
 · intro h i hi
   have hi' := List.mem_range.1 hi
   have h1 := h (i / 8) (by omega)
   rw [hd_top x n (i / 8) (hx _ (by omega)), hd_top p n (i / 8) (hp _ (by omega))] at h1
   have h2 := Nat.eq_of_mul_eq_mul_right (Nat.pow_pos (by omega)) h1
   have h3 := (top_iff (hp (i / 8) (by omega)) (hx (i / 8) (by omega)) (min 8 (n - 8 * (i / 8))) (by omega)).2 h2.symm (i % 8) (by omega)
   simp only [btN, beq_iff_eq]
   exact h3
theorem vld_vR (V : Int) (x : Nat → Nat) (hx : ∀ i, i < 16 → x i < 256) : vld V x = vR V x := by
 unfold vld vR
 by_cases h4 : V = 4
 · subst h4
   have e : same16 (hdA x 32) x = (List.range 12).all fun i => x (4 + i) == 0 := by
    rw [Bool.eq_iff_iff, same16_iff, List.all_eq_true]
    constructor
    · intro h i hi
      have hi' := List.mem_range.1 hi
      have h1 := h (4 + i) (by omega)
      rw [hd_top x 32 (4 + i) (hx _ (by omega)), show min 8 (32 - 8 * (4 + i)) = 0 by omega] at h1
      have h2 : x (4 + i) / 2 ^ (8 - 0) = 0 := Nat.div_eq_of_lt (by simpa using hx (4 + i) (by omega))
      rw [h2] at h1
      simp at h1
      simp [← h1]
    · intro h j hj
      by_cases h3 : j < 4
      · unfold hdA; rw [if_pos (by omega)]
      · have h1 := h (j - 4) (List.mem_range.2 (by omega))
        rw [show 4 + (j - 4) = j by omega] at h1
        have h2 : x j = 0 := by simpa using h1
        rw [hd_top x 32 j (hx j hj), h2]
        simp
   have e0 : ((4 : Int) == 6) = false := by decide
   have e1 : ((4 : Int) == 4) = true := by decide
   rw [e0, e1, e]
   simp
 · have e1 : (V == 4) = false := by simp [h4]
   rw [e1]
   simp
theorem cn_mt {p : PV} {k : Nat} {V : Int} {x : Nat → Nat} (hx : ∀ i, i < 16 → x i < 256) (hv : vR V x = true) (hp : vpR p = 0) (hV : p.V = vr k) (hn : p.n = (ln k : Nat)) (hl : ln k ≤ 128) (hb : ∀ j, j < 16 → p.x j = nt k j) (h256 : ∀ j, j < 16 → p.x j < 256) (hh : ∀ j, j < 16 → hdA p.x (ln k) j = p.x j) : cnR p V x = mt V x k := by
 unfold cnR mt
 rw [hp, hv, hV, hn]
 have e : ((List.range ((ln k : Nat) : Int).toNat).all fun i => btN p.x i == btN x i) = same16 (hdA x (ln k)) (nt k) := by
  rw [Int.toNat_natCast, Bool.eq_iff_iff, bits_iff hl hx h256, same16_iff]
  constructor
  · intro h j hj
    rw [h j hj, hh j hj, hb j hj]
  · intro h j hj
    rw [h j hj, hh j hj, hb j hj]
 rw [e]
 rfl
def ckM (L : List Nat) (k : Nat) : Bool := decide (ln k ≤ 128) && (List.range 16).all fun j => decide (bt L j = nt k j) && decide (bt L j < 256) && decide (hdA (bt L) (ln k) j = bt L j)
theorem cn_ck {L : List Nat} {n k : Nat} {U : Int} {V : Int} {x : Nat → Nat} (hx : ∀ i, i < 16 → x i < 256) (hv : vR V x = true) (hp : vpR ⟨U, bt L, (n : Nat)⟩ = 0) (hV : U = vr k) (hn : n = ln k) (hc : ckM L k = true) : cnR ⟨U, bt L, (n : Nat)⟩ V x = mt V x k := by
 unfold ckM at hc
 simp only [Bool.and_eq_true, decide_eq_true_eq, List.all_eq_true, List.mem_range] at hc
 exact cn_mt hx hv hp hV (by rw [hn]) hc.1 (fun j hj => (hc.2 j hj).1.1) (fun j hj => (hc.2 j hj).1.2) (fun j hj => (hc.2 j hj).2)
theorem class_alike (V : Int) (x : Nat → Nat) (hx : ∀ i, i < 16 → x i < 256) : clsA V x = (clR V x : Nat) := by
 unfold clsA
 rw [vld_vR V x hx]
 by_cases hv : vR V x = true
 · rw [if_pos hv]
   unfold clR
   rw [cn_ck (k := 0) hx hv tx4_0.vp rfl rfl (by decide +kernel)]
   rw [cn_ck (k := 1) hx hv tx6_0.vp rfl rfl (by decide +kernel)]
   rw [cn_ck (k := 2) hx hv tx4_1.vp rfl rfl (by decide +kernel)]
   rw [cn_ck (k := 3) hx hv tx6_1.vp rfl rfl (by decide +kernel)]
   rw [cn_ck (k := 4) hx hv tx4_2.vp rfl rfl (by decide +kernel)]
   rw [cn_ck (k := 5) hx hv tx6_2.vp rfl rfl (by decide +kernel)]
   rw [cn_ck (k := 6) hx hv tx4_3.vp rfl rfl (by decide +kernel)]
   rw [cn_ck (k := 7) hx hv tx6_3.vp rfl rfl (by decide +kernel)]
   rw [cn_ck (k := 8) hx hv tx4_4.vp rfl rfl (by decide +kernel)]
   rw [cn_ck (k := 9) hx hv tx4_5.vp rfl rfl (by decide +kernel)]
   rw [cn_ck (k := 10) hx hv tx4_6.vp rfl rfl (by decide +kernel)]
   rw [cn_ck (k := 11) hx hv tx6_4.vp rfl rfl (by decide +kernel)]
   rw [hv]
   simp only [clF]
   obtain ⟨m0, h0⟩ : ∃ b, mt V x 0 = b := ⟨_, rfl⟩
   obtain ⟨m1, h1⟩ : ∃ b, mt V x 1 = b := ⟨_, rfl⟩
   obtain ⟨m2, h2⟩ : ∃ b, mt V x 2 = b := ⟨_, rfl⟩
   obtain ⟨m3, h3⟩ : ∃ b, mt V x 3 = b := ⟨_, rfl⟩
   obtain ⟨m4, h4⟩ : ∃ b, mt V x 4 = b := ⟨_, rfl⟩
   obtain ⟨m5, h5⟩ : ∃ b, mt V x 5 = b := ⟨_, rfl⟩
   obtain ⟨m6, h6⟩ : ∃ b, mt V x 6 = b := ⟨_, rfl⟩
   obtain ⟨m7, h7⟩ : ∃ b, mt V x 7 = b := ⟨_, rfl⟩
   obtain ⟨m8, h8⟩ : ∃ b, mt V x 8 = b := ⟨_, rfl⟩
   obtain ⟨m9, h9⟩ : ∃ b, mt V x 9 = b := ⟨_, rfl⟩
   obtain ⟨m10, h10⟩ : ∃ b, mt V x 10 = b := ⟨_, rfl⟩
   obtain ⟨m11, h11⟩ : ∃ b, mt V x 11 = b := ⟨_, rfl⟩
   rw [h0, h1, h2, h3, h4, h5, h6, h7, h8, h9, h10, h11]
   clear h0 h1 h2 h3 h4 h5 h6 h7 h8 h9 h10 h11
   revert m0 m1 m2 m3 m4 m5 m6 m7 m8 m9 m10 m11
   decide +kernel
 · rw [if_neg hv]
   unfold clR
   have hv' : vR V x = false := by simpa using hv
   rw [hv']
   rfl
end Go.Proofs.YtclpeepnngegaaaGreatDoor
