/-
  Layer 4: addr.longestZeros.
-/
import Derived.Test.YteldiggaooeeeaaGreatDoorAdG1
namespace Go.Proofs.YteldiggaooeeeaaGreatDoor
open Go.RowKit Go.Maps

/-- the groups' texts -/
def gtX (x : Nat → Nat) (k : Nat) : ByteArray := txB (hexL (gx x k))
theorem hx_zero {v : Nat} (_h : v < 65536) : ((txB (hexL v)).toList == [48]) = decide (v = 0) := by
  rw [ByteArray.toList_eq, txB_data]
  unfold hexL
  by_cases h1 : v < 16
  · rw [if_pos h1]
    have : ∀ k : Fin 16, (([hd k.val]).map UInt8.ofNat == [48]) = decide (k.val = 0) := by decide
    exact this ⟨v, h1⟩
  · rw [if_neg h1, decide_eq_false (by omega)]
    split
    · simp
    · split <;> simp
set_option maxHeartbeats 1600000 in
set_option maxRecDepth 100000 in
theorem lz_any (x : Nat → Nat) (g c : Nat) (w : World) (hx : ∀ i, i < 16 → x i < 256) (hc : ∀ j, j < 8 → w.cell? ⟨g, j, none⟩ = some (.string (gtX x j))) : Calls Tryz.prog 41 #[.slice (some ⟨g, 0, none⟩) 8 c] w fun r w' => r = .returned (.tuple #[.int .i64 ((lzN x 8).1 : Nat), .int .i64 ((lzN x 8).2 : Nat)]) ∧ w = w' := by
  have HX : Hid (∀ i, i < 16 → x i < 256) := hx
  have HC : Hid (∀ j, j < 8 → w.cell? ⟨g, j, none⟩ = some (.string (gtX x j))) := hc
  clear hx hc
  go_enter Tryz.func41, Tryz.ntmps41
  go_wp2
  go_loopw [2, 3, 8] (fun fv tv iv wr => ∃ i : Nat, i ≤ 8 ∧ iv = .int .i64 (i : Nat) ∧ fv = .int .i64 ((lzN x i).1 : Nat) ∧ tv = .int .i64 ((lzN x i).2 : Nat) ∧ w = wr) (fun _ _ iv _ => 8 - (intOf iv).toNat)
  case atStart => exact ⟨0, by omega, rfl, rfl, rfl, rfl⟩
  case round =>
    obtain ⟨i, hi8, rfl, rfl, rfl, rfl⟩ := hrel
    have HI8 : Hid (i ≤ 8) := hi8
    obtain ⟨a, ha⟩ : ∃ a, (lzN x i).1 = a := ⟨_, rfl⟩
    obtain ⟨b, hb⟩ : ∃ b, (lzN x i).2 = b := ⟨_, rfl⟩
    have HAB : Hid ((lzN x i).1 = a ∧ (lzN x i).2 = b ∧ a ≤ b ∧ b ≤ 8) := by have h := lzN_at x i hi8; rw [ha, hb] at h; exact ⟨ha, hb, h.1, h.2.1⟩
    rw [ha, hb]
    clear ha hb hi8
    by_cases hlt : i < 8
    · have p1 : decide ((i : Int) < 8) = true := decide_eq_true (by omega)
      have p2 : decide (i < 8) = true := decide_eq_true hlt
      have p3 : (i : Int) < 8 := by omega
      have HLT : Hid (i < 8) := hlt
      have x3 : IntKind.i64.wrap ((i : Int) + 1) = (i : Int) + 1 := i64_s _ (by omega) (by omega)
      clear hlt
      go_wp2
      go_loopw [5] (fun ev wr => ∃ e : Nat, i ≤ e ∧ e ≤ 8 ∧ ev = .int .i64 (e : Nat) ∧ Hid (zE x e = zE x i) ∧ w = wr) (fun ev _ => 8 - (intOf ev).toNat)
      case atStart => exact ⟨i, Nat.le_refl _, HI8.out, rfl, rfl, rfl⟩
      case round =>
        obtain ⟨e, he1, he2, rfl, HE, rfl⟩ := hrel
        have HEB : Hid (i ≤ e ∧ e ≤ 8) := ⟨he1, he2⟩
        clear he1 he2
        by_cases hle : e < 8
        · have r1 : decide ((e : Int) < 8) = true := decide_eq_true (by omega)
          have r2 : decide (e < 8) = true := decide_eq_true hle
          have r3 : (e : Int) < 8 := by omega
          have r4 : (0 : Int) ≤ (e : Int) := by omega
          have HLE : Hid (e < 8) := hle
          have cE := HC.out e hle
          by_cases hz : gx x e = 0
          · have z1 : ((gtX x e).toList == [48]) = true := by unfold gtX; rw [hx_zero (gx_lt HX.out hle), decide_eq_true hz]
            have HZ : Hid (zE x (e + 1) = zE x i) := by show _ = _; rw [← zE_step hle hz]; exact HE.out
            have x4 : IntKind.i64.wrap ((e : Int) + 1) = (e : Int) + 1 := i64_s _ (by omega) (by omega)
            clear hle hz
            go_wp2
            go_roundw
            case rel => exact ⟨e + 1, by have := HEB.out; omega, HLE.out, by simp, HZ.out, by first | rfl | trivial⟩
            case measure => have := HLE.out; simp [intOf]; omega
          · have z1 : ((gtX x e).toList == [48]) = false := by unfold gtX; rw [hx_zero (gx_lt HX.out hle), decide_eq_false hz]
            have HZ : Hid (zE x i = e) := by show _ = _; rw [← HE.out]; exact zE_stop hle hz
            clear hle hz
            have y1 : IntKind.i64.wrap ((e : Int) - (i : Int)) = ((e - i : Nat) : Int) := by have := HEB.out; rw [i64_s _ (by omega) (by omega)]; omega
            have y2 : IntKind.i64.wrap ((b : Int) - (a : Int)) = ((b - a : Nat) : Int) := by have := HAB.out; rw [i64_s _ (by omega) (by omega)]; omega
            by_cases hg : b - a < e - i
            · have g1 : decide (((b - a : Nat) : Int) < ((e - i : Nat) : Int)) = true := decide_eq_true (by omega)
              have g2 : decide (b - a < e - i) = true := decide_eq_true hg
              have HN : Hid (lzN x (i + 1) = (i, e)) := by show _ = _; unfold lzN; rw [HAB.out.1, HAB.out.2.1, HZ.out, if_pos hg]
              go_wp2
              go_roundw
              case rel => exact ⟨i + 1, HLT.out, by simp, by rw [HN.out], by rw [HN.out], by first | rfl | trivial⟩
              case measure => have := HLT.out; simp [intOf]; omega
            · have g1 : decide (((b - a : Nat) : Int) < ((e - i : Nat) : Int)) = false := decide_eq_false (by omega)
              have g2 : decide (b - a < e - i) = false := decide_eq_false hg
              have HN : Hid ((lzN x (i + 1)).1 = a ∧ (lzN x (i + 1)).2 = b) := by show _ ∧ _; unfold lzN; rw [HAB.out.1, HAB.out.2.1, HZ.out, if_neg hg]; exact ⟨HAB.out.1, HAB.out.2.1⟩
              go_wp2
              go_roundw
              case rel => exact ⟨i + 1, HLT.out, by simp, by rw [HN.out.1], by rw [HN.out.2], by first | rfl | trivial⟩
              case measure => have := HLT.out; simp [intOf]; omega
        · have r1 : decide ((e : Int) < 8) = false := decide_eq_false (by omega)
          have r2 : decide (e < 8) = false := decide_eq_false hle
          have r3 : ¬ (e : Int) < 8 := by omega
          have HZ : Hid (zE x i = e) := by show _ = _; rw [← HE.out]; exact zE_end x (by omega)
          clear hle
          have y1 : IntKind.i64.wrap ((e : Int) - (i : Int)) = ((e - i : Nat) : Int) := by have := HEB.out; rw [i64_s _ (by omega) (by omega)]; omega
          have y2 : IntKind.i64.wrap ((b : Int) - (a : Int)) = ((b - a : Nat) : Int) := by have := HAB.out; rw [i64_s _ (by omega) (by omega)]; omega
          by_cases hg : b - a < e - i
          · have g1 : decide (((b - a : Nat) : Int) < ((e - i : Nat) : Int)) = true := decide_eq_true (by omega)
            have g2 : decide (b - a < e - i) = true := decide_eq_true hg
            have HN : Hid (lzN x (i + 1) = (i, e)) := by show _ = _; unfold lzN; rw [HAB.out.1, HAB.out.2.1, HZ.out, if_pos hg]
            go_wp2
            go_roundw
            case rel => exact ⟨i + 1, HLT.out, by simp, by rw [HN.out], by rw [HN.out], by first | rfl | trivial⟩
            case measure => have := HLT.out; simp [intOf]; omega
          · have g1 : decide (((b - a : Nat) : Int) < ((e - i : Nat) : Int)) = false := decide_eq_false (by omega)
            have g2 : decide (b - a < e - i) = false := decide_eq_false hg
            have HN : Hid ((lzN x (i + 1)).1 = a ∧ (lzN x (i + 1)).2 = b) := by show _ ∧ _; unfold lzN; rw [HAB.out.1, HAB.out.2.1, HZ.out, if_neg hg]; exact ⟨HAB.out.1, HAB.out.2.1⟩
            go_wp2
            go_roundw
            case rel => exact ⟨i + 1, HLT.out, by simp, by rw [HN.out.1], by rw [HN.out.2], by first | rfl | trivial⟩
            case measure => have := HLT.out; simp [intOf]; omega
    · have p1 : decide ((i : Int) < 8) = false := decide_eq_false (by omega)
      have p2 : decide (i < 8) = false := decide_eq_false hlt
      have p3 : ¬ (i : Int) < 8 := by omega
      have HE : Hid (i = 8) := by have := HI8.out; show i = 8; omega
      clear hlt
      go_wp2
      refine bodyPost_ret (results_tmp2 rfl _ _ _) rfl ?_
      exact ⟨by rw [← HAB.out.1, ← HAB.out.2.1, HE.out]; rfl, rfl⟩
end Go.Proofs.YteldiggaooeeeaaGreatDoor
