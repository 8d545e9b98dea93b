/-
  The walk of NamesNumbers.
-/
import Derived.Test.YthknonnbbkigcaaDoorLists
import Derived.Test.YthknonnbbkigcaaDoorItoa
import Derived.Below
import Derived.Lib.AppendIntMem
namespace Go.Proofs.YthknonnbbkigcaaDoor
open Go.RowKit

theorem twice_at : ∀ (zs : List Int) (i : Nat), i < zs.length → (twice zs)[i * 2]? = some (.int .i64 (zs.getD i 0)) ∧ (twice zs)[i * 2 + 1]? = some (.int .i64 (zs.getD i 0))
  | [], i, h => by simp at h
  | z :: zs, 0, _ => ⟨rfl, rfl⟩
  | z :: zs, i + 1, h => by
    have := twice_at zs i (by simpa using h)
    have e1 : (i + 1) * 2 = i * 2 + 1 + 1 := by omega
    rw [e1]
    simpa [twice] using this
theorem pair_cells (w : World) (zs : List Int) (t : TypeId) (i : Nat) (h : i < zs.length) :
    (w.alloc (.cells (twice zs).toArray t)).cell? ⟨w.heap.size, i * 2, none⟩ = some (.int .i64 (zs.getD i 0)) ∧ (w.alloc (.cells (twice zs).toArray t)).cell? ⟨w.heap.size, i * 2 + 1, none⟩ = some (.int .i64 (zs.getD i 0)) := by
  have h2 := twice_at zs i h
  rw [World.cell?_alloc_at _ _ _ _ rfl, World.cell?_alloc_at _ _ _ _ rfl]
  simpa using h2
theorem errsL_len : errsL.length = 128 := by kernel_rfl
theorem limitsL_len : limitsL.length = 89 := by kernel_rfl

theorem errno_any (x : Int) (w : World) : Calls Tryd.prog 6 #[.int .i64 x] w fun e w' => e = .returned (.int .i64 x) ∧ w = w' := by
  go_enter Tryd.func6, Tryd.ntmps6
  go_wp2
  go_ret
  exact ⟨rfl, rfl⟩

set_option maxRecDepth 100000 in
set_option maxHeartbeats 1600000 in
theorem walk (w : World) (htab : Lib.TabIs Tryd.prog w "internal/strconv.uint64pow10" .u64 Lib.pow10Tab) : Calls Tryd.prog 3 #[] w fun e w' => e = .returned (.bool true) ∧ Below w.heap.size w w' := by
  have HT : Hid (∀ W, Below w.heap.size w W → Lib.TabIs Tryd.prog W "internal/strconv.uint64pow10" .u64 Lib.pow10Tab) := fun W h => Lib.tabBelow_of_tabIs htab W h
  clear htab
  go_enter Tryd.func3, Tryd.ntmps3
  go_wp2_with fail
  refine (errs_any w).mono ?_
  rintro e w1 ⟨rfl, hw1⟩
  have HC1 : Hid (∀ i, i < 128 → w1.cell? ⟨w.heap.size, i * 2, none⟩ = some (.int .i64 (errsL.getD i 0)) ∧ w1.cell? ⟨w.heap.size, i * 2 + 1, none⟩ = some (.int .i64 (errsL.getD i 0))) := fun i hi => by
    rw [hw1]; exact pair_cells w errsL 25 i (by rw [errsL_len]; exact hi)
  have hb1 : Below w.heap.size w w1 := by rw [hw1]; exact (Below.refl _ _).alloc (Nat.le_refl _) _
  have hs1 : w.heap.size < w1.heap.size := by rw [hw1]; simp
  clear hw1
  go_wp2_with fail
  go_loopw [8] (fun ix wr => ∃ k : Nat, k ≤ 128 ∧ ix = .int .i64 k ∧ Below w1.heap.size w1 wr) (fun ix _ => 128 - (intOf ix).toNat)
  case atStart => exact ⟨0, by decide, rfl, Below.refl _ _⟩
  case round =>
    obtain ⟨k, hk, rfl, hbel⟩ := hrel
    by_cases hlt : k < 128
    · obtain ⟨c0, c1⟩ := HC1.out k hlt
      obtain ⟨x, hx⟩ : ∃ x, x = errsL.getD k 0 := ⟨_, rfl⟩
      rw [← hx] at c0 c1
      clear hx
      have d0 : wr.cell? ⟨w.heap.size, k * 2, none⟩ = some (.int .i64 x) := (hbel.cell hs1).trans c0
      have d1 : wr.cell? ⟨w.heap.size, k * 2 + 1, none⟩ = some (.int .i64 x) := (hbel.cell hs1).trans c1
      clear c0 c1
      go_wp2
      go_roundw
      case rel => exact ⟨k + 1, by omega, by go_num, hbel.alloc hbel.size _⟩
      case measure => simp [intOf]; omega
    · obtain rfl : k = 128 := by omega
      go_wp2_with fail
      refine (limits_any _).mono ?_
      rintro e w2 ⟨rfl, hw2⟩
      have HC2 : Hid (∀ i, i < 89 → w2.cell? ⟨wr.heap.size, i * 2, none⟩ = some (.int .i64 (limitsL.getD i 0)) ∧ w2.cell? ⟨wr.heap.size, i * 2 + 1, none⟩ = some (.int .i64 (limitsL.getD i 0))) := fun i hi => by
        rw [hw2]; exact pair_cells wr limitsL 25 i (by rw [limitsL_len]; exact hi)
      have hb2 : Below wr.heap.size wr w2 := by rw [hw2]; exact (Below.refl _ _).alloc (Nat.le_refl _) _
      have hs2 : wr.heap.size < w2.heap.size := by rw [hw2]; simp
      have hw : Below w.heap.size w w2 := (hb1.trans (hbel.mono (Nat.le_of_lt hs1))).trans (hb2.mono (Nat.le_trans hb1.size hbel.size))
      clear hw2
      go_wp2_with fail
      go_loopw [20] (fun ix wr => ∃ k : Nat, k ≤ 89 ∧ ix = .int .i64 k ∧ Below w2.heap.size w2 wr) (fun ix _ => 89 - (intOf ix).toNat)
      case atStart => exact ⟨0, by decide, rfl, Below.refl _ _⟩
      case round =>
        obtain ⟨k, hk, rfl, hbel2⟩ := hrel
        by_cases hlt : k < 89
        · obtain ⟨c0, c1⟩ := HC2.out k hlt
          obtain ⟨x, hx⟩ : ∃ x, x = limitsL.getD k 0 := ⟨_, rfl⟩
          rw [← hx] at c0 c1
          clear hx
          have d0 := (hbel2.cell hs2).trans c0
          have d1 := (hbel2.cell hs2).trans c1
          clear c0 c1
          go_wp2
          go_roundw
          case rel => exact ⟨k + 1, by omega, by go_num, hbel2.alloc hbel2.size _⟩
          case measure => simp [intOf]; omega
        · obtain rfl : k = 89 := by omega
          have hw3 : Below w.heap.size w wr := hw.trans (hbel2.mono hw.size)
          go_wp2_with fail
          refine (errno_any 33 wr).mono ?_
          rintro e w3 ⟨rfl, rfl⟩
          go_wp2_with fail
          refine (error33 wr).mono ?_
          rintro e w3 ⟨rfl, rfl⟩
          go_wp2_with fail
          refine (errorm5 wr (HT.out wr hw3)).mono ?_
          rintro e w3 ⟨rfl, k, os, rfl⟩
          have hw4 : Below w.heap.size w (Sort.grow (wr.drewN k) os) := hw3.trans (Lib.below_grow _ wr hw3.size k os)
          go_wp2
          go_ret
          exact ⟨rfl, hw4⟩
end Go.Proofs.YthknonnbbkigcaaDoor
