/-
  The statements' own helpers: num, port.
-/
import Derived.Test.YtaicmpkgcppplaaPort14
namespace Go.Proofs.Ytaicmpkgcppplaa
open Go.RowKit

theorem num_any (v : Int) (w : World) : Calls Try.prog 11 #[.int .i64 v] w fun e w' => e = .returned (.int .i64 v) ∧ w = w' := by
  go_enter Try.func11, Try.ntmps11
  go_wp2
  go_ret
  exact ⟨rfl, rfl⟩
theorem i64_mul (a b : Int) (h1 : 1 ≤ a) (h2 : a ≤ 8192) (h3 : 64 ≤ b) (h4 : b ≤ 65535) : IntKind.i64.wrap (a * b) = a * b := by
  have h5 : 0 ≤ a * b := Int.mul_nonneg (by omega) (by omega)
  have h6 : a * b ≤ 8192 * 65535 := Int.mul_le_mul h2 h4 (by omega) (by omega)
  simp [IntKind.wrap, IntKind.bits, IntKind.signed]; omega
theorem results_tmp5 {fn : Func} {a b c d e : Tmp} (h : fn.results = #[.tmp a, .tmp b, .tmp c, .tmp d, .tmp e]) (tmps : Array Value) (P : Program) (w : World) :
    (results fn tmps).run P w = .ok (.tuple #[tmps.getD a undef, tmps.getD b undef, tmps.getD c undef, tmps.getD d undef, tmps.getD e undef]) w := by
  simp [results, h]
/-- numbers that make a port that may be played with -/
structure SmallN (rx tx pool size : Nat) : Prop where
  h1 : 1 ≤ rx
  h2 : rx ≤ 4096
  h3 : 1 ≤ tx
  h4 : tx ≤ 4096
  h5 : 1 ≤ pool
  h6 : pool ≤ 8192
  h7 : 64 ≤ size
  h8 : size ≤ 65535
theorem small_least : SmallN 2 2 3 64 := ⟨by decide, by decide, by decide, by decide, by decide, by decide, by decide, by decide⟩
set_option maxRecDepth 100000 in
set_option maxHeartbeats 3200000 in
theorem port_any (w : World) (rx tx pool size : Int) :
    Calls Try.prog 9 #[.int .i64 rx, .int .i64 tx, .int .i64 pool, .int .i64 size] w fun e w' => ∃ (r t p s : Nat) (P gb gf gr gt : Nat), SmallN r t p s ∧ e = .returned (.tuple #[.pointer (some ⟨P, 0, none⟩), .int .i64 r, .int .i64 t, .int .i64 p, .int .i64 s]) ∧
      PortAt w' P gb gf gr gt (newK r t p s p) ∧ Below w.heap.size w w' ∧ ∀ q, PB P gb gf gr gt (newK r t p s p) q → w.heap.size ≤ q := by
  go_enter Try.func9, Try.ntmps9
  go_upto_region 1 with fail
  go_cut [13] (fun s0 wx => ∃ B : Bool, s0 = .bool B ∧ (B = true → 1 ≤ rx ∧ rx ≤ 4096 ∧ 1 ≤ tx ∧ tx ≤ 4096 ∧ 1 ≤ pool ∧ pool ≤ 8192 ∧ 64 ≤ size ∧ size ≤ 65535) ∧ wx = w)
  case first =>
    by_cases c0 : 1 ≤ rx
    case neg =>
      have d0 : decide (1 ≤ rx) = false := decide_eq_false c0
      clear c0
      go_wp2
      go_meet
      exact ⟨false, rfl, fun h => (by cases h), rfl⟩
    have d0 : decide (1 ≤ rx) = true := decide_eq_true c0
    by_cases c1 : rx ≤ 4096
    case neg =>
      have d1 : decide (rx ≤ 4096) = false := decide_eq_false c1
      clear c1
      go_wp2
      go_meet
      exact ⟨false, rfl, fun h => (by cases h), rfl⟩
    have d1 : decide (rx ≤ 4096) = true := decide_eq_true c1
    by_cases c2 : 1 ≤ tx
    case neg =>
      have d2 : decide (1 ≤ tx) = false := decide_eq_false c2
      clear c2
      go_wp2
      go_meet
      exact ⟨false, rfl, fun h => (by cases h), rfl⟩
    have d2 : decide (1 ≤ tx) = true := decide_eq_true c2
    by_cases c3 : tx ≤ 4096
    case neg =>
      have d3 : decide (tx ≤ 4096) = false := decide_eq_false c3
      clear c3
      go_wp2
      go_meet
      exact ⟨false, rfl, fun h => (by cases h), rfl⟩
    have d3 : decide (tx ≤ 4096) = true := decide_eq_true c3
    by_cases c4 : 1 ≤ pool
    case neg =>
      have d4 : decide (1 ≤ pool) = false := decide_eq_false c4
      clear c4
      go_wp2
      go_meet
      exact ⟨false, rfl, fun h => (by cases h), rfl⟩
    have d4 : decide (1 ≤ pool) = true := decide_eq_true c4
    by_cases c5 : pool ≤ 8192
    case neg =>
      have d5 : decide (pool ≤ 8192) = false := decide_eq_false c5
      clear c5
      go_wp2
      go_meet
      exact ⟨false, rfl, fun h => (by cases h), rfl⟩
    have d5 : decide (pool ≤ 8192) = true := decide_eq_true c5
    by_cases c6 : 64 ≤ size
    case neg =>
      have d6 : decide (64 ≤ size) = false := decide_eq_false c6
      clear c6
      go_wp2
      go_meet
      exact ⟨false, rfl, fun h => (by cases h), rfl⟩
    have d6 : decide (64 ≤ size) = true := decide_eq_true c6
    by_cases c7 : size ≤ 65535
    case neg =>
      have d7 : decide (size ≤ 65535) = false := decide_eq_false c7
      clear c7
      go_wp2
      go_meet
      exact ⟨false, rfl, fun h => (by cases h), rfl⟩
    have d7 : decide (size ≤ 65535) = true := decide_eq_true c7
    have wm : IntKind.i64.wrap (pool * size) = pool * size := i64_mul pool size (by omega) (by omega) (by omega) (by omega)
    by_cases c8 : pool * size ≤ 4000000
    case neg =>
      have d8 : decide (pool * size ≤ 4000000) = false := decide_eq_false c8
      clear c8
      go_wp2
      go_meet
      exact ⟨false, rfl, fun h => (by cases h), rfl⟩
    have d8 : decide (pool * size ≤ 4000000) = true := decide_eq_true c8
    go_wp2
    go_meet
    exact ⟨true, rfl, fun _ => ⟨c0, c1, c2, c3, c4, c5, c6, c7⟩, rfl⟩
  case rest =>
  obtain ⟨B, rfl, hB, rfl⟩ := hcut
  cases B with
  | false =>
    clear hB
    go_wp2_with fail
    refine (New_yes wc 2 2 3 64 (by decide) (by decide) (by decide) (by decide) (by decide) (by decide) (by decide) (by decide)).mono ?_
    rintro e w1 ⟨P, gb, gf, gr, gt, rfl, hp, hb, hq⟩
    go_wp2_with (first | (go_at_call 11; refine (num_any _ _).mono ?_; rintro e w2 ⟨rfl, rfl⟩))
    (try simp only [Exit.inBlock, Exit.then])
    refine bodyPost_ret (results_tmp5 rfl _ _ _) rfl ?_
    exact ⟨2, 2, 3, 64, P, gb, gf, gr, gt, small_least, rfl, hp, hb, hq⟩
  | true =>
    obtain ⟨c0, c1, c2, c3, c4, c5, c6, c7⟩ := hB rfl
    obtain ⟨r, rfl⟩ : ∃ r : Nat, rx = (r : Int) := ⟨rx.toNat, by omega⟩
    obtain ⟨t, rfl⟩ : ∃ r : Nat, tx = (r : Int) := ⟨tx.toNat, by omega⟩
    obtain ⟨p, rfl⟩ : ∃ r : Nat, pool = (r : Int) := ⟨pool.toNat, by omega⟩
    obtain ⟨s, rfl⟩ : ∃ r : Nat, size = (r : Int) := ⟨size.toNat, by omega⟩
    have hs : SmallN r t p s := ⟨by omega, by omega, by omega, by omega, by omega, by omega, by omega, by omega⟩
    clear hB c0 c1 c2 c3 c4 c5 c6 c7
    go_wp2_with fail
    refine (New_yes wc r t p s hs.h1 hs.h2 hs.h3 hs.h4 hs.h5 hs.h6 hs.h7 hs.h8).mono ?_
    rintro e w1 ⟨P, gb, gf, gr, gt, rfl, hp, hb, hq⟩
    go_wp2_with (first | (go_at_call 11; refine (num_any _ _).mono ?_; rintro e w2 ⟨rfl, rfl⟩))
    (try simp only [Exit.inBlock, Exit.then])
    refine bodyPost_ret (results_tmp5 rfl _ _ _) rfl ?_
    exact ⟨r, t, p, s, P, gb, gf, gr, gt, hs, rfl, hp, hb, hq⟩
end Go.Proofs.Ytaicmpkgcppplaa
