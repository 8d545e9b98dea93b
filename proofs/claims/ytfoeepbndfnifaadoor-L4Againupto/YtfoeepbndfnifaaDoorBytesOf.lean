/-
  view.bytesOf: how many bytes fields of these widths fill.
-/
import Derived.Test.YtfoeepbndfnifaaDoorBase
namespace Go.Proofs.YtfoeepbndfnifaaDoor
open Go.RowKit

theorem okW_long (ws : List Int) (h : ¬ ws.length ≤ 64) : okW ws = false := by simp [okW, h]
theorem okW_bad (ws : List Int) (k : Nat) (hk : k < ws.length) (h : ¬ (1 ≤ ws.getD k 0 ∧ ws.getD k 0 ≤ 32)) : okW ws = false := by
  have : ws.all (fun w => decide (1 ≤ w ∧ w ≤ 32)) = false := by
    rw [List.all_eq_false]
    refine ⟨ws[k], List.getElem_mem _, ?_⟩
    simp [List.getD, hk] at h
    simpa using h
  unfold okW
  rw [this]; simp
theorem okW_odd (ws : List Int) (h : sumI ws % 8 ≠ 0) : okW ws = false := by
  have h' : ws.foldl (· + ·) 0 % 8 ≠ 0 := h
  unfold okW
  simp only [h', decide_false, Bool.and_false]
theorem okW_good (ws : List Int) (h1 : ws.length ≤ 64) (h2 : ∀ j, j < ws.length → 1 ≤ ws.getD j 0 ∧ ws.getD j 0 ≤ 32) (h3 : sumI ws % 8 = 0) : okW ws = true := by
  have h3' : ws.foldl (· + ·) 0 % 8 = 0 := h3
  have : ws.all (fun w => decide (1 ≤ w ∧ w ≤ 32)) = true := by
    rw [List.all_eq_true]
    intro x hx
    obtain ⟨j, hj, rfl⟩ := List.getElem_of_mem hx
    have := h2 j hj
    simp [List.getD, hj] at this
    simpa using this
  unfold okW
  rw [this]
  simp only [h1, h3', decide_true, Bool.and_self]

theorem okW_mk (ws : List Nat) (h1 : ws.length ≤ 64) (h2 : ∀ x ∈ ws, 1 ≤ x ∧ x ≤ 32) (h3 : M.tot ws % 8 = 0) : okW (toI ws) = true := by
  refine okW_good _ (by rw [toI_len]; exact h1) ?_ (by rw [sumI_toI]; omega)
  intro j hj
  rw [toI_len] at hj
  rw [toI_getD]
  have := h2 ws[j] (List.getElem_mem _)
  simp only [List.getD, List.getElem?_eq_getElem hj, Option.getD_some]
  omega

set_option maxHeartbeats 400000 in
theorem bytesOf_any (a : Option Addr) (cap : Nat) (ws : List Int) (w : World) (hseg : Seg .i64 w a ws) (hlen : ws.length ≤ 9223372036854775807) :
    Calls Tryd.prog 55 #[.slice a ws.length cap] w fun e w' => e = .returned (.tuple #[.int .i64 (boN ws), .int .i64 (boE ws)]) ∧ w' = w := by
  by_cases h64 : ws.length ≤ 64
  · go_enter Tryd.func55, Tryd.ntmps55
    go_wp2
    go_loop [4, 12] (fun bi i => ∃ k : Nat, k ≤ ws.length ∧ i = .int .i64 k ∧ bi = .int .i64 (sumI (ws.take k)) ∧ (∀ j, j < k → 1 ≤ ws.getD j 0 ∧ ws.getD j 0 ≤ 32) ∧ 0 ≤ sumI (ws.take k) ∧ sumI (ws.take k) ≤ 32 * k)
      (fun _ i => ws.length - (intOf i).toNat)
    case atStart => exact ⟨0, Nat.zero_le _, rfl, rfl, by intro j hj; omega, by simp [sumI], by simp [sumI]⟩
    case round =>
      obtain ⟨k, hk, rfl, rfl, hall, hs0, hs1⟩ := hrel
      by_cases hlt : k < ws.length
      · rcases hseg with hnil | ⟨b, off, rfl, hc⟩
        · simp [hnil] at hlt
        have hcell := hc k hlt
        obtain ⟨x, hx⟩ : ∃ x, x = ws.getD k 0 := ⟨_, rfl⟩
        have hss := sumI_take_succ ws k hlt
        rw [← hx] at hcell hss
        have HX : Hid (x = ws.getD k 0) := hx
        have HS : Hid (sumI (ws.take (k + 1)) = sumI (ws.take k) + x) := hss
        clear hx hss hc
        by_cases h1 : 1 ≤ x
        · by_cases h2 : x ≤ 32
          · go_wp2
            go_round
            case rel =>
              refine ⟨k + 1, by omega, by go_num, by rw [HS.out], ?_, by rw [HS.out]; omega, by rw [HS.out]; omega⟩
              intro j hj
              by_cases hjk : j = k
              · subst hjk; rw [← HX.out]; exact ⟨h1, h2⟩
              · exact hall j (by omega)
            case measure => simp [intOf]; omega
          · have hb := okW_bad ws k hlt (by rw [← HX.out]; omega)
            go_wp2
            go_ret2
            exact ⟨ret2 (by simp [boN, hb]) (by simp [boE, hb]), rfl⟩
        · have hb := okW_bad ws k hlt (by rw [← HX.out]; omega)
          go_wp2
          go_ret2
          exact ⟨ret2 (by simp [boN, hb]) (by simp [boE, hb]), rfl⟩
      · have hkl : k = ws.length := by omega
        subst hkl
        rw [List.take_length] at hs0 hs1
        by_cases h8 : sumI ws % 8 = 0
        · have hg := okW_good ws h64 hall h8
          have h8' : ((sumI ws).tmod 8 != 0) = false := by rw [Int.tmod_eq_emod_of_nonneg hs0]; simp [h8]
          go_wp2
          go_ret2
          refine ⟨ret2 ?_ (by simp [boE, hg]), rfl⟩
          simp [boN, hg]
        · have hb := okW_odd ws h8
          have h8' : ((sumI ws).tmod 8 != 0) = true := by rw [Int.tmod_eq_emod_of_nonneg hs0]; simp [h8]
          go_wp2
          go_ret2
          exact ⟨ret2 (by simp [boN, hb]) (by simp [boE, hb]), rfl⟩
  · have hb := okW_long ws h64
    go_enter Tryd.func55, Tryd.ntmps55
    go_wp2
    go_ret2
    exact ⟨ret2 (by simp [boN, hb]) (by simp [boE, hb]), rfl⟩
end Go.Proofs.YtfoeepbndfnifaaDoor
