/-
  addr.head: the first bits of an address.
-/
import Derived.Test.YteldiggaooeeeaaGreatDoorRtA0
namespace Go.Proofs.YteldiggaooeeeaaGreatDoor
open Go.RowKit

theorem i64_s (a : Int) (h1 : -1000000 ≤ a) (h2 : a ≤ 1000000) : IntKind.i64.wrap a = a := by rw [IntKind.wrap_i64 a]; omega
theorem ArAt.fz {w : World} {O : Nat} {C : Array Value} (k : ArAt w O C) (i : Nat) : w.frozen? ⟨O, i, none⟩ = false := by unfold ArAt at k; simp [World.frozen?, k]
theorem mask_eq (n k z : Nat) (hz : z < 256) : bits .and .u8 (z : Int) (255 * 2 ^ (8 - if (n : Int) - 8 * (k : Int) < 0 then 0 else (n : Int) - 8 * (k : Int)).toNat % 256) = ((z &&& mkA n k : Nat) : Int) := by
  have e : (255 * 2 ^ (8 - if (n : Int) - 8 * (k : Int) < 0 then 0 else (n : Int) - 8 * (k : Int)).toNat % 256 : Int) = ((mkA n k : Nat) : Int) := by
    have : (8 - if (n : Int) - 8 * (k : Int) < 0 then 0 else (n : Int) - 8 * (k : Int)).toNat = 8 - (n - 8 * k) := by split <;> omega
    rw [this]
    simp [mkA]
  rw [e, u8_and_nat z _ hz (mkA_lt n k)]
theorem hdK_lt (x : Nat → Nat) (n k i : Nat) (h : x i < 256) : hdK x n k i < 256 := by
  unfold hdK hdA
  split
  · split
    · exact h
    · exact Nat.lt_of_le_of_lt Nat.and_le_left h
  · exact h
set_option maxHeartbeats 1600000 in
set_option maxRecDepth 100000 in
theorem head_any (x : Nat → Nat) (n : Nat) (w : World) (hn : n ≤ 128) (hx : ∀ i, i < 16 → x i < 256) : Calls Tryz.prog 20 #[.agg (arCells x), .int .i64 n] w fun e w' => e = .returned (.agg (arCells (hdA x n))) ∧ Below w.heap.size w w' := by
  obtain ⟨C, hC⟩ : ∃ C, C = arCells x := ⟨_, rfl⟩
  have ha := arAt_new w C
  have hr := arAt_new (w.alloc (.cells C 26)) (arCells (fun _ => 0))
  rw [World.size_alloc] at hr
  have bel : Below w.heap.size w ((w.alloc (.cells C 26)).alloc (.cells (arCells (fun _ => 0)) 26)) := ((Below.refl _ _).alloc (Nat.le_refl _) _).alloc (by simp) _
  have ha2 := ha.below ((Below.refl _ _).alloc (Nat.le_refl _) (.cells (arCells (fun _ => 0)) 26))
  obtain ⟨W, hW⟩ : ∃ W, W = (w.alloc (.cells C 26)).alloc (.cells (arCells (fun _ => 0)) 26) := ⟨_, rfl⟩
  rw [← hW] at hr bel ha2
  obtain ⟨B, hB⟩ : ∃ B, B = w.heap.size := ⟨_, rfl⟩
  rw [← hB] at hr ha2
  have HB : Hid (w.heap.size = B) := hB.symm
  have HW : Hid ((w.alloc (.cells C 26)).alloc (.cells #[.int .u8 0, .int .u8 0, .int .u8 0, .int .u8 0, .int .u8 0, .int .u8 0, .int .u8 0, .int .u8 0, .int .u8 0, .int .u8 0, .int .u8 0, .int .u8 0, .int .u8 0, .int .u8 0, .int .u8 0, .int .u8 0] 26) = W) := hW.symm
  have HR : Hid (ArAt W (B + 1) (arCells (fun _ => 0))) := hr
  have HA : Hid (ArAt W B (arCells (hdK x n 0))) := by rw [hdK_zero, ← hC]; exact ha2
  have HX : Hid (∀ i, i < 16 → x i < 256) := hx
  have HN : Hid (n ≤ 128) := hn
  rw [← hC]
  clear ha hr ha2 hW hB hC hx hn
  go_enter Tryz.func20, Tryz.ntmps20
  go_wp2
  rw [HB.out, HW.out]
  go_loopw [7] (fun ix wr => ∃ k : Nat, k ≤ 16 ∧ ix = .int .i64 k ∧ ArAt wr B (arCells (hdK x n k)) ∧ ArAt wr (B + 1) (arCells (fun _ => 0)) ∧ Below w.heap.size w wr) (fun ix _ => 16 - (intOf ix).toNat)
  case atStart => exact ⟨0, by omega, rfl, HA.out, HR.out, bel⟩
  case round =>
    obtain ⟨k, hk, rfl, hA, hR, hbel⟩ := hrel
    have HA2 : Hid (ArAt wr B (arCells (hdK x n k))) := hA
    have HR2 : Hid (ArAt wr (B + 1) (arCells (fun _ => 0))) := hR
    clear hA hR
    by_cases hk16 : k < 16
    · have w1 : IntKind.i64.wrap ((k : Int) + 1) = (k : Int) + 1 := i64_s _ (by omega) (by omega)
      have w8 : IntKind.i64.wrap (8 * (k : Int)) = 8 * (k : Int) := i64_s _ (by omega) (by omega)
      have wn : IntKind.i64.wrap ((n : Int) - 8 * (k : Int)) = (n : Int) - 8 * (k : Int) := i64_s _ (by have := HN.out; omega) (by have := HN.out; omega)
      have l16 : (k : Int) < 16 := by omega
      by_cases h8 : 8 * (k + 1) ≤ n
      · have d8 : decide ((n : Int) - 8 * (k : Int) < 8) = false := decide_eq_false (by omega)
        have HK : Hid (hdK x n (k + 1) = hdK x n k) := hdK_keep x n k h8
        clear h8
        go_wp2
        go_roundw
        case rel => exact ⟨k + 1, by omega, by simp, by rw [HK.out]; exact HA2.out, HR2.out, hbel⟩
        case measure => simp [intOf]; omega
      · have d8 : decide ((n : Int) - 8 * (k : Int) < 8) = true := decide_eq_true (by omega)
        have h0 := HA2.out.get k hk16
        have HZ : Hid (bits .and .u8 ((hdK x n k k : Nat) : Int) (255 * 2 ^ (8 - if (n : Int) - 8 * (k : Int) < 0 then 0 else (n : Int) - 8 * (k : Int)).toNat % 256) = ((hdK x n (k + 1) k : Nat) : Int)) := by
          rw [hdK_at x n k h8]; exact mask_eq n k _ (hdK_lt x n k k (HX.out k hk16))
        have hf : wr.frozen? ⟨B, k, none⟩ = false := HA2.out.fz k
        have HP := HA2.out.put k hk16 (y := hdK x n (k + 1)) (fun j hj => hdK_step x n k j hj)
        have HPH : Hid _ := HP
        clear HP
        go_wp2
        go_region
        rw [HZ.out]
        obtain ⟨wS, hwS⟩ : ∃ wS, wS = wr.setCell ⟨B, k, none⟩ (.int .u8 (hdK x n (k + 1) k : Nat)) := ⟨_, rfl⟩
        have HPP := HPH.out
        rw [← hwS] at HPP ⊢
        have hbS : Below w.heap.size w wS := hbel.trans (HPP.2.below (fun q e => by have e' : q = B := e; have := HB.out; omega) hbel.size)
        have hbd : Below wS.heap.size wS wS.drew := (Below.refl _ _).drew
        have HA3 : Hid (ArAt wS.drew B (arCells (hdK x n (k + 1)))) := HPP.1.below hbd
        have HR3 : Hid (ArAt wS.drew (B + 1) (arCells (fun _ => 0))) := (HR2.out.ch HPP.2 (fun e => by have e' : B + 1 = B := e; omega)).below hbd
        have hbD := hbS.trans (hbd.mono hbS.size)
        clear HPP HPH hwS hf HZ h0 HA2 HR2 hbd hbS
        go_wp2
        go_roundw
        case rel => exact ⟨k + 1, by omega, by simp, HA3.out, HR3.out, hbD⟩
        case measure => simp [intOf]; omega
    · have e : k = 16 := by omega
      subst e
      have HRG : Hid (wr.rangeAt B 0 (arCells (hdK x n 16)).toList) := HA2.out.range
      go_wp2_with (first | (refine wpList_load_ar (.tmp 2) rfl B 0 (hdK x n 16) rfl HRG.out rfl ?_) | (refine wpList_store_ar (.tmp 4) (.tmp 26) rfl rfl (B + 1) (fun _ => 0) (hdK x n 16) rfl rfl HR2.out rfl ?_))
      intro wE hRE kE
      have HRE : Hid (ArAt wE (B + 1) (arCells (hdK x n 16))) := hRE
      have HFE : Hid (Below w.heap.size w wE) := hbel.trans (kE.below (fun q e => by have e' : q = B + 1 := e; have := HB.out; omega) hbel.size)
      clear hRE kE
      go_wp2
      (try simp only [Exit.inBlock, Exit.then])
      refine bodyPost_ret (results_ar rfl _ _ (B + 1) (hdK x n 16) rfl HRE.out) rfl ?_
      exact ⟨by rw [hdK_all], HFE.out⟩
end Go.Proofs.YteldiggaooeeeaaGreatDoor
