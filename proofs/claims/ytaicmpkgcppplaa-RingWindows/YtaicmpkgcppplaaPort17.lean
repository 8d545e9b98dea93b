/-
  The statements' own helper do: a step on a port.
-/
import Derived.Test.YtaicmpkgcppplaaPort16
namespace Go.Proofs.Ytaicmpkgcppplaa
open Go.RowKit

/-- a step's cells -/
def opCells (kd : Int) (two : Bool) (i n : Int) (a : Option Addr) (len c : Nat) : Array Value := #[.int .i64 kd, .bool two, .int .i64 i, .int .i64 n, .slice a len c]
/-- what a step may turn of the places -/
def Turns (kd r : Int) (s s' : PS) : Prop := (r ≠ 0 → s'.pl = s.pl) ∧ (kd ≠ 1 → ∃ i0, ∀ j, j ≠ i0 → s'.pl j = s.pl j)
theorem Turns.same (kd r : Int) {s s' : PS} (h : s'.pl = s.pl) : Turns kd r s s' := ⟨fun _ => h, fun _ => ⟨0, fun j _ => by rw [h]⟩⟩
theorem Turns.one (kd : Int) {s s' : PS} (i v : Nat) (h : s'.pl = updF s.pl i v) : Turns kd 0 s s' := ⟨fun e => absurd rfl e, fun _ => ⟨i, fun j hj => by rw [h, updF_other _ _ _ hj]⟩⟩
theorem Turns.many {s s' : PS} (r : Int) (hr : r = 0) : Turns 1 r s s' := ⟨fun e => absurd hr e, fun e => absurd rfl e⟩
set_option maxRecDepth 100000 in
set_option maxHeartbeats 3200000 in
theorem do_any (w : World) (P gb gf gr gt : Nat) (s : PS) (h : PortAt w P gb gf gr gt s) (hi : PInv s) (kd : Int) (two : Bool) (i n : Int) (a : Option Addr) (c : Nat) (fr : List Nat) (hseg : Seg .u8 w a (toI fr)) (h256 : ∀ x ∈ fr, x < 256) (hap : ∀ x, fr ≠ [] → a = some x → x.block ≠ P ∧ x.block ≠ gb) :
    Calls Try.prog 22 #[.pointer (some ⟨P, 0, none⟩), .agg (opCells kd two i n a fr.length c)] w fun e w' => ∃ s' r, e = .returned (.int .i64 r) ∧ Played w w' P gb gf gr gt s s' ∧ Turns kd r s s' := by
  obtain ⟨W, hW⟩ : ∃ W, W = w.alloc (.cells (opCells kd two i n a fr.length c) 33) := ⟨_, rfl⟩
  have hb1 : Below w.heap.size w W := by rw [hW]; exact (Below.refl _ _).alloc (Nat.le_refl _) _
  have hc : ∀ j, W.cell? ⟨w.heap.size, j, none⟩ = (opCells kd two i n a fr.length c)[j]? := fun j => by rw [hW, World.cell?_alloc_at _ _ _ _ rfl]
  have c0 : W.cell? ⟨w.heap.size, 0, none⟩ = some (.int .i64 kd) := by rw [hc]; rfl
  have c2 : W.cell? ⟨w.heap.size, 2, none⟩ = some (.int .i64 i) := by rw [hc]; rfl
  have c3 : W.cell? ⟨w.heap.size, 3, none⟩ = some (.int .i64 n) := by rw [hc]; rfl
  have c4 : W.cell? ⟨w.heap.size, 4, none⟩ = some (.slice a fr.length c) := by rw [hc]; rfl
  have H0 : Played w W P gb gf gr gt s s := .none h hi hb1
  have hseg1 := hseg.old hb1
  obtain ⟨C, hC⟩ : ∃ C, C = opCells kd two i n a fr.length c := ⟨_, rfl⟩
  rw [← hC] at hW ⊢
  have HW : Hid (w.alloc (.cells C 33) = W) := hW.symm
  obtain ⟨O, hO⟩ : ∃ O, O = w.heap.size := ⟨_, rfl⟩
  rw [← hO] at c0 c2 c3 c4
  have HO : Hid (w.heap.size = O) := hO.symm
  have q1 : Hid _ := refill_t H0.port H0.inv n
  have q2 : Hid _ := arrive_t H0.port H0.inv a c fr hseg1 h256 hap
  have q3 : Hid _ := poll_t H0.port H0.inv
  have q4 : Hid _ := take_t H0.port H0.inv
  have q5 : Hid _ := buffer_t H0.port H0.inv i
  have q6 : Hid _ := release_t H0.port H0.inv i
  have q7 : Hid _ := send_t H0.port H0.inv i n
  have q8 : Hid _ := drain_t H0.port H0.inv
  obtain ⟨ln, hln⟩ : ∃ ln, ln = fr.length := ⟨_, rfl⟩
  rw [← hln] at c4
  have HL : Hid (fr.length = ln) := hln.symm
  rw [HL.out] at q2
  clear hW hC hO hc hb1 hseg hseg1 h h256 hap hln
  by_cases e1 : kd = 1
  case pos =>
    subst e1
    clear q2 q3 q4 q5 q6 q7 q8
    go_enter Try.func22, Try.ntmps22
    go_upto_region 1 with fail
    rw [HW.out, HO.out]
    go_wp2_with fail
    refine Calls.mono q1.out ?_
    rintro e w2 ⟨k, _, rfl, hp⟩
    clear q1
    go_wp2
    go_ret
    exact ⟨_, 0, rfl, H0.trans hp, .many 0 rfl⟩
  have n1 : (kd == 1) = false := by simpa using e1
  by_cases e2 : kd = 2
  case pos =>
    subst e2
    clear q1 q3 q4 q5 q6 q7 q8
    go_enter Try.func22, Try.ntmps22
    go_upto_region 1 with fail
    rw [HW.out, HO.out]
    go_wp2_with fail
    refine Calls.mono q2.out ?_
    rintro e w2 ⟨rfl, ⟨hne, hb⟩ | ⟨he, hk, b, hp⟩⟩
    · obtain ⟨r, hr⟩ : ∃ r, r = aE s ln := ⟨_, rfl⟩
      rw [← hr]
      have H1 := H0.trans (.none H0.port H0.inv hb)
      clear q2 hne hb hr
      go_wp2_with (first | (go_at_call 11; refine (num_any _ _).mono ?_; rintro e w9 ⟨rfl, rfl⟩))
      go_ret
      exact ⟨s, r, rfl, H1, .same _ _ rfl⟩
    · rw [he]
      clear q2 he
      go_wp2_with (first | (go_at_call 11; refine (num_any _ _).mono ?_; rintro e w9 ⟨rfl, rfl⟩))
      go_ret
      exact ⟨_, 0, rfl, H0.trans hp, .one _ _ _ rfl⟩
  have n2 : (kd == 2) = false := by simpa using e2
  by_cases e3 : kd = 3
  case pos =>
    subst e3
    clear q1 q2 q4 q5 q6 q7 q8
    go_enter Try.func22, Try.ntmps22
    go_upto_region 1 with fail
    rw [HW.out, HO.out]
    go_wp2_with fail
    refine Calls.mono q3.out ?_
    rintro e w2 (⟨_, rfl, rfl⟩ | ⟨m, i1, b, rest, _, _, _, rfl, _, hp⟩)
    · clear q3
      go_wp2
      go_ret
      exact ⟨s, 0, rfl, H0, .same _ _ rfl⟩
    · clear q3
      go_wp2
      go_ret
      exact ⟨_, 0, rfl, H0.trans hp, .one _ _ _ rfl⟩
  have n3 : (kd == 3) = false := by simpa using e3
  by_cases e4 : kd = 4
  case pos =>
    subst e4
    clear q1 q2 q3 q5 q6 q7 q8
    go_enter Try.func22, Try.ntmps22
    go_upto_region 1 with fail
    rw [HW.out, HO.out]
    go_wp2_with fail
    refine Calls.mono q4.out ?_
    rintro e w2 (⟨_, rfl, rfl⟩ | ⟨i1, b, rest, _, _, rfl, _, hp⟩)
    · clear q4
      go_wp2_with (first | (go_at_call 11; refine (num_any _ _).mono ?_; rintro e w9 ⟨rfl, rfl⟩))
      go_ret
      exact ⟨s, 33, rfl, H0, .same _ _ rfl⟩
    · clear q4
      go_wp2_with (first | (go_at_call 11; refine (num_any _ _).mono ?_; rintro e w9 ⟨rfl, rfl⟩))
      go_ret
      exact ⟨_, 0, rfl, H0.trans hp, .one _ _ _ rfl⟩
  have n4 : (kd == 4) = false := by simpa using e4
  by_cases e5 : kd = 5
  case pos =>
    subst e5
    clear q1 q2 q3 q4 q6 q7 q8
    go_enter Try.func22, Try.ntmps22
    go_upto_region 1 with fail
    rw [HW.out, HO.out]
    go_wp2_with fail
    refine Calls.mono q5.out ?_
    rintro e w2 (⟨_, rfl, rfl⟩ | ⟨k, b, _, _, _, _, rfl, _, hp⟩)
    · obtain ⟨r, hr⟩ : ∃ r, r = hE s i := ⟨_, rfl⟩
      rw [← hr]
      clear q5 hr
      go_wp2_with (first | (go_at_call 11; refine (num_any _ _).mono ?_; rintro e w9 ⟨rfl, rfl⟩))
      go_ret
      exact ⟨s, r, rfl, H0, .same _ _ rfl⟩
    · clear q5
      go_wp2_with (first | (go_at_call 11; refine (num_any _ _).mono ?_; rintro e w9 ⟨rfl, rfl⟩))
      go_ret
      exact ⟨_, 0, rfl, H0.trans hp, .same _ _ rfl⟩
  have n5 : (kd == 5) = false := by simpa using e5
  by_cases e6 : kd = 6
  case pos =>
    subst e6
    clear q1 q2 q3 q4 q5 q7 q8
    go_enter Try.func22, Try.ntmps22
    go_upto_region 1 with fail
    rw [HW.out, HO.out]
    go_wp2_with fail
    refine Calls.mono q6.out ?_
    rintro e w2 ⟨rfl, ⟨_, rfl⟩ | ⟨k, _, he, _, _, hp⟩⟩
    · obtain ⟨r, hr⟩ : ∃ r, r = hE s i := ⟨_, rfl⟩
      rw [← hr]
      clear q6 hr
      go_wp2_with (first | (go_at_call 11; refine (num_any _ _).mono ?_; rintro e w9 ⟨rfl, rfl⟩))
      go_ret
      exact ⟨s, r, rfl, H0, .same _ _ rfl⟩
    · rw [he]
      clear q6 he
      go_wp2_with (first | (go_at_call 11; refine (num_any _ _).mono ?_; rintro e w9 ⟨rfl, rfl⟩))
      go_ret
      exact ⟨_, 0, rfl, H0.trans hp, .one _ _ _ rfl⟩
  have n6 : (kd == 6) = false := by simpa using e6
  by_cases e7 : kd = 7
  case pos =>
    subst e7
    clear q1 q2 q3 q4 q5 q6 q8
    go_enter Try.func22, Try.ntmps22
    go_upto_region 1 with fail
    rw [HW.out, HO.out]
    go_wp2_with fail
    refine Calls.mono q7.out ?_
    rintro e w2 ⟨rfl, ⟨_, hb⟩ | ⟨k, m, _, _, he, _, _, _, hp⟩⟩
    · obtain ⟨r, hr⟩ : ∃ r, r = sE s i n := ⟨_, rfl⟩
      rw [← hr]
      have H1 := H0.trans (.none H0.port H0.inv hb)
      clear q7 hb hr
      go_wp2_with (first | (go_at_call 11; refine (num_any _ _).mono ?_; rintro e w9 ⟨rfl, rfl⟩))
      go_ret
      exact ⟨s, r, rfl, H1, .same _ _ rfl⟩
    · rw [he]
      clear q7 he
      go_wp2_with (first | (go_at_call 11; refine (num_any _ _).mono ?_; rintro e w9 ⟨rfl, rfl⟩))
      go_ret
      exact ⟨_, 0, rfl, H0.trans hp, .one _ _ _ rfl⟩
  have n7 : (kd == 7) = false := by simpa using e7
  by_cases e8 : kd = 8
  case pos =>
    subst e8
    clear q1 q2 q3 q4 q5 q6 q7
    go_enter Try.func22, Try.ntmps22
    go_upto_region 1 with fail
    rw [HW.out, HO.out]
    go_wp2_with fail
    refine Calls.mono q8.out ?_
    rintro e w2 (⟨_, rfl, rfl⟩ | ⟨i1, g, b, rest, _, _, rfl, _, _, _, hp⟩)
    · clear q8
      go_wp2
      go_ret
      exact ⟨s, 0, rfl, H0, .same _ _ rfl⟩
    · clear q8
      go_wp2
      go_ret
      exact ⟨_, 0, rfl, H0.trans hp, .one _ _ _ rfl⟩
  have n8 : (kd == 8) = false := by simpa using e8
  clear q1 q2 q3 q4 q5 q6 q7 q8
  go_enter Try.func22, Try.ntmps22
  go_upto_region 1 with fail
  rw [HW.out, HO.out]
  go_wp2
  go_ret
  exact ⟨s, 0, rfl, H0, .same _ _ rfl⟩
end Go.Proofs.Ytaicmpkgcppplaa
