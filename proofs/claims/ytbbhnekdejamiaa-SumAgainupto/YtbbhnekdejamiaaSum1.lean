/-
  sum.word, sum.fold: what they answer.
-/
import Derived.Test.YtbbhnekdejamiaaSBase
import Derived.Deep.QuietTactic
import Derived.BigQuiet
namespace Go.Proofs.Ytbbhnekdejamiaa
open Go.RowKit

theorem seg_at {k : IntKind} {w : World} {a : Option Addr} {l : List Nat} (h : Seg k w a (toI l)) (i : Nat) (hi : i < l.length) : ∃ b off, a = some ⟨b, off, none⟩ ∧ ∀ j, j < l.length → w.cell? ⟨b, off + j, none⟩ = some (.int k ((l.getD j 0 : Nat) : Int)) := by
  rcases h with hnil | ⟨b, off, rfl, hc⟩
  · have := congrArg List.length hnil; rw [toI_len] at this; simp at this; subst this; simp at hi
  · refine ⟨b, off, rfl, fun j hj => ?_⟩
    have := hc j (by rw [toI_len]; exact hj)
    rwa [toI_getD] at this

theorem or_word (x y : Nat) (hx : x < 256) (hy : y < 256) : bits .or .u64 ((x : Int) * 256) (y : Int) = ((256 * x + y : Nat) : Int) := by
  have e : ((x : Int) * 256) = ((256 * x : Nat) : Int) := by omega
  rw [e, u64_or_nat _ _ (by omega) (by omega)]
  have h2 := Nat.two_pow_add_eq_or_of_lt (i := 8) (b := y) (by omega) x
  have h3 : 256 * x ||| y = 256 * x + y := h2.symm
  rw [h3]

/-- what the first word of some bytes is -/
def word1 (l : List Nat) : Nat := 256 * l.getD 0 0 + l.getD 1 0
set_option maxHeartbeats 400000 in
theorem word_q (a : Option Addr) (len cap : Nat) (l : List Nat) (w : World) (hl : l.length = len) (hs : Seg .u8 w a (toI l)) (h256 : ∀ x ∈ l, x < 256) (h1 : 1 ≤ len) :
    Calls Try.prog 18 #[.slice a len cap] w fun e w' => e = .returned (.int .u64 ((word1 l : Nat) : Int)) ∧ ∃ m, w' = w.drewN m := by
  subst hl
  obtain ⟨b, off, rfl, hc⟩ := seg_at hs 0 (by omega)
  have c0 := hc 0 (by omega)
  have hx0 : l.getD 0 0 < 256 := by simp only [List.getD, List.getElem?_eq_getElem (show 0 < l.length by omega), Option.getD_some]; exact h256 _ (List.getElem_mem _)
  by_cases h2 : l.length = 1
  · have e0 : l.getD 1 0 = 0 := by simp [List.getD, h2]
    have HW : Hid (word1 l = 256 * l.getD 0 0) := by show _ = _; rw [word1, e0]; omega
    obtain ⟨x, hx⟩ : ∃ x, x = l.getD 0 0 := ⟨_, rfl⟩
    rw [← hx] at c0 hx0 HW
    clear hc hx e0
    rw [Nat.add_zero] at c0
    have h3 : ((l.length : Int) == 1) = true := by simp; omega
    go_enter Try.func18, Try.ntmps18
    go_wp2
    go_ret
    exact ⟨ret1 (by rw [HW.out]; omega), 0, rfl⟩
  · have c1 := hc 1 (by omega)
    have hy0 : l.getD 1 0 < 256 := by simp only [List.getD, List.getElem?_eq_getElem (show 1 < l.length by omega), Option.getD_some]; exact h256 _ (List.getElem_mem _)
    have HW : Hid (word1 l = 256 * l.getD 0 0 + l.getD 1 0) := rfl
    obtain ⟨x, hx⟩ : ∃ x, x = l.getD 0 0 := ⟨_, rfl⟩
    obtain ⟨y, hy⟩ : ∃ y, y = l.getD 1 0 := ⟨_, rfl⟩
    rw [← hx] at c0 hx0 HW
    rw [← hy] at c1 hy0 HW
    clear hc hx hy
    rw [Nat.add_zero] at c0
    have h3 : ((l.length : Int) == 1) = false := by simp; omega
    have h4 : 2 ≤ l.length := by omega
    go_enter Try.func18, Try.ntmps18
    go_wp2
    go_region
    go_wp2
    go_ret
    exact ⟨ret1 (by rw [HW.out]; first | exact or_word x y hx0 hy0 | simpa using or_word x y hx0 hy0), 1, rfl⟩

theorem below_drewN (w : World) (m : Nat) : Below w.heap.size w (w.drewN m) := ⟨rfl, rfl, rfl, Nat.le_refl _, fun _ _ => rfl⟩
theorem word_any (a : Option Addr) (len cap : Nat) (l : List Nat) (w : World) (hl : l.length = len) (hs : Seg .u8 w a (toI l)) (h256 : ∀ x ∈ l, x < 256) (h1 : 1 ≤ len) :
    Calls Try.prog 18 #[.slice a len cap] w fun e w' => e = .returned (.int .u64 ((word1 l : Nat) : Int)) ∧ Below w.heap.size w w' :=
  (word_q a len cap l w hl hs h256 h1).mono (fun e w' ⟨h, m, hm⟩ => ⟨h, by rw [hm]; exact below_drewN w m⟩)

theorem fold_num (n : Nat) (h : n < 18446744073709551616) : bits .and .u64 (n : Int) 65535 = ((n % 65536 : Nat) : Int) := by
  have := u64_and_nat n 65535 h (by decide)
  rw [show (65535 : Nat) = 2 ^ 16 - 1 by rfl, Nat.and_two_pow_sub_one_eq_mod] at this
  simpa using this
set_option maxHeartbeats 400000 in
theorem fold_any (n : Nat) (w : World) (h : n < 18446744073709551616) : Calls Try.prog 19 #[.int .u64 n] w fun e w' => e = .returned (.int .i64 ((S.fold n : Nat) : Int)) ∧ w = w' := by
  go_enter Try.func19, Try.ntmps19
  go_wp2
  go_loop [0] (fun v => ∃ m : Nat, m < 18446744073709551616 ∧ v = .int .u64 m ∧ Hid (S.fold m = S.fold n)) (fun v => (intOf v).toNat)
  case atStart => exact ⟨n, h, rfl, rfl⟩
  case round =>
    obtain ⟨m, hm, rfl, HM⟩ := hrel
    by_cases hlt : 65535 < m
    · have ha := fold_num m hm
      obtain ⟨q, hq⟩ : ∃ q, q = m % 65536 := ⟨_, rfl⟩
      rw [← hq] at ha
      have hq2 : q < 65536 := by omega
      have HQ : Hid (q = m % 65536) := hq
      clear hq
      go_wp2
      go_round
      case rel => exact ⟨m % 65536 + m / 65536, by omega, by have := HQ.out; go_num, by show _ = _; rw [S.fold_step m hlt]; exact HM.out⟩
      case measure => have := HQ.out; simp [intOf]; omega
    · have HM2 : Hid (m = S.fold n) := by have := HM.out; rw [S.fold_small m (by omega)] at this; exact this
      go_wp2
      go_ret
      exact ⟨ret1 (by rw [← HM2.out]; try (unfold wrap64; omega)), rfl⟩
end Go.Proofs.Ytbbhnekdejamiaa
