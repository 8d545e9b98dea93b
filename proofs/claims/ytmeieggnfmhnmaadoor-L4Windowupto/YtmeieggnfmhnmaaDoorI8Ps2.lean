/-
  An address in memory; the document's version.
-/
import Derived.Test.YtmeieggnfmhnmaaDoorI8Ps1
import Derived.Deep.DeepCutAuto
namespace Go.Proofs.YtmeieggnfmhnmaaDoor
open Go.RowKit



def verOf (V : Int) (x : Nat → Nat) : Int := if V = 6 then 6 else if restZ x = true ∧ V = 4 then 4 else 0
theorem restZ_iff (x : Nat → Nat) : restZ x = true ↔ ∀ i, 4 ≤ i → i < 16 → x i = 0 := by
  simp only [restZ, decide_eq_true_eq]
  constructor
  · rintro ⟨h4, h5, h6, h7, h8, h9, h10, h11, h12, h13, h14, h15⟩ i h1 h2
    have : i = 4 ∨ i = 5 ∨ i = 6 ∨ i = 7 ∨ i = 8 ∨ i = 9 ∨ i = 10 ∨ i = 11 ∨ i = 12 ∨ i = 13 ∨ i = 14 ∨ i = 15 := by omega
    rcases this with rfl | rfl | rfl | rfl | rfl | rfl | rfl | rfl | rfl | rfl | rfl | rfl <;> assumption
  · intro h
    exact ⟨h 4 (by omega) (by omega), h 5 (by omega) (by omega), h 6 (by omega) (by omega), h 7 (by omega) (by omega), h 8 (by omega) (by omega), h 9 (by omega) (by omega), h 10 (by omega) (by omega), h 11 (by omega) (by omega), h 12 (by omega) (by omega), h 13 (by omega) (by omega), h 14 (by omega) (by omega), h 15 (by omega) (by omega)⟩

set_option maxHeartbeats 1600000 in
set_option maxRecDepth 100000 in
theorem version_any (V : Int) (x : Nat → Nat) (w : World) :
    Calls Tryd.prog 101 #[.agg (ipCells V x)] w fun e w' => e = .returned (.int .i64 (verOf V x)) ∧ Below w.heap.size w w' := by
  have hbx := boxed_new w V x 24
  have hb1 : Below w.heap.size w (w.alloc (.cells (ipCells V x) 24)) := (Below.refl _ _).alloc (Nat.le_refl _) _
  obtain ⟨CS, hCS⟩ : ∃ CS, CS = ipCells V x := ⟨_, rfl⟩
  rw [← hCS] at hbx hb1 ⊢
  clear hCS
  go_enter Tryd.func101, Tryd.ntmps101
  go_upto_region 1 with fail
  obtain ⟨W, hW⟩ : ∃ W, W = w.alloc (.cells CS 24) := ⟨_, rfl⟩
  rw [← hW] at hbx hb1 ⊢
  clear hW
  obtain ⟨B, hB⟩ : ∃ B, B = w.heap.size := ⟨_, rfl⟩
  rw [← hB] at hbx ⊢
  clear hB
  have hv := hbx.ver
  by_cases h6 : V = 6
  · subst h6
    go_wp2
    go_ret
    exact ⟨ret1 (by simp [verOf]), hb1⟩
  · have h6' : (V == 6) = false := by simpa using h6
    go_wp2
    go_loop [3] (fun ix => ∃ k : Nat, 4 ≤ k ∧ k ≤ 16 ∧ ix = .int .i64 k ∧ Hid (∀ j, 4 ≤ j → j < k → x j = 0)) (fun ix => 16 - (intOf ix).toNat)
    case atStart => exact ⟨4, by omega, by omega, rfl, fun j h1 h2 => by omega⟩
    case round =>
      obtain ⟨k, hk4, hk, rfl, HZ⟩ := hrel
      by_cases hlt : k < 16
      · have hc := hbx.byte k hlt
        obtain ⟨y, hy⟩ : ∃ y, y = x k := ⟨_, rfl⟩
        rw [← hy] at hc
        have HY : Hid (y = x k) := hy
        clear hy
        by_cases hy0 : y = 0
        · subst hy0
          go_wp2
          go_round
          case rel => exact ⟨k + 1, by omega, by omega, by go_num, fun j h1 h2 => by rcases Nat.lt_succ_iff_lt_or_eq.1 h2 with h | rfl; exact HZ.out j h1 h; exact HY.out.symm⟩
          case measure => simp [intOf]; omega
        · have hb : ((y : Int) != 0) = true := by simp; omega
          have HR : Hid (verOf V x = 0) := by
            show _ = _
            have hr : ¬ restZ x = true := fun h => hy0 (by rw [HY.out]; exact (restZ_iff x).1 h k hk4 hlt)
            rw [verOf, if_neg h6, if_neg (fun h => hr h.1)]
          go_wp2
          go_ret
          exact ⟨ret1 (by rw [HR.out]), hb1⟩
      · obtain rfl : k = 16 := by omega
        have hr : restZ x = true := (restZ_iff x).2 HZ.out
        by_cases h4 : V = 4
        · subst h4
          have HR : Hid (verOf 4 x = 4) := by show _ = _; rw [verOf, if_neg (by decide), if_pos ⟨hr, rfl⟩]
          go_wp2
          go_ret
          exact ⟨ret1 (by rw [HR.out]), hb1⟩
        · have h4' : (V == 4) = false := by simpa using h4
          have HR : Hid (verOf V x = 0) := by show _ = _; rw [verOf, if_neg h6, if_neg (fun h => h4 h.2)]
          go_wp2
          go_ret
          exact ⟨ret1 (by rw [HR.out]), hb1⟩
end Go.Proofs.YtmeieggnfmhnmaaDoor
