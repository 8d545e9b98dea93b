/-
  WideStands: what Wide made holds the bytes, and the marks behind them.
-/
import Derived.Test.YtbbhnekdejamiaaWide1
import Derived.Deep.DeepCutAuto
import Derived.Test.YtbbhnekdejamiaaMix
namespace Go.Proofs.Ytbbhnekdejamiaa.Wd
open Go.RowKit

theorem wide_lo (l : List Nat) (k : Nat) (h : k < l.length) : (wide l).getD k 0 = l.getD k 0 := by
  simp [wide, List.getD, List.getElem?_append_left h]
theorem wide_hi (l : List Nat) (k : Nat) (h : l.length ≤ k) (h2 : k < 2 * l.length + 70) : (wide l).getD k 0 = bh (k - l.length) := by
  rw [wide, List.getD, List.getElem?_append_right h]
  simp [show k - l.length < l.length + 70 by omega]
theorem wide_length (l : List Nat) : (wide l).length = 2 * l.length + 70 := by simp [wide]; omega

set_option maxHeartbeats 1600000 in
set_option maxRecDepth 100000 in
theorem stands_any (g n N c B : Nat) (a : Option Addr) (l : List Nat) (w : World) (hn : l.length = n) (hN : N = 2 * n + 70) (ho : OwnB w B (.slice (some ⟨g, 0, none⟩) N N) N (wide l)) (hs : Seg .u8 w a (toI l)) (hm : n ≤ 1099511627776) :
    Calls Try.prog 26 #[.slice (some ⟨g, 0, none⟩) n N, .slice a n c] w fun e w' => e = .returned (.bool true) ∧ Below w.heap.size w w' := by
  have HN : Hid (N = 2 * n + 70) := hN
  have hN2 : 2 * (n : Int) + 70 = (N : Int) := by omega
  have hNn : n ≤ N := by omega
  have hNm : N ≤ 2199023255622 := by omega
  have HL : Hid (l.length = n) := hn
  have HC : Hid (∀ w' k, Below w.heap.size w w' → k < N → w'.cell? ⟨g, k, none⟩ = some (.int .u8 (((wide l).getD k 0 : Nat) : Int))) := by
    intro w' k hb hk
    have hlen := wide_length l
    have h1 : w.cell? ⟨g, k, none⟩ = some (.int .u8 (((wide l).getD k 0 : Nat) : Int)) := by
      rw [ho.cellAt k (by omega)]; simp [toI, List.getD, show k < (wide l).length by omega]
    exact (hb.cell (p := ⟨g, k, none⟩) (World.block_lt_of_cell? w _ h1)).trans h1
  have HSG : Hid (∀ w', Below w.heap.size w w' → Seg .u8 w' a (toI l)) := fun w' hb => hs.old hb
  clear hN hn ho hs
  go_enter Try.func26, Try.ntmps26
  go_wp2
  go_loopw [6] (fun ix wr => ∃ k : Nat, k ≤ N ∧ ix = .int .i64 k ∧ Below w.heap.size w wr) (fun ix _ => N - (intOf ix).toNat)
  case atStart => exact ⟨0, Nat.zero_le _, rfl, Below.refl _ _⟩
  case round =>
    obtain ⟨k, hk, rfl, hbq⟩ := hrel
    by_cases hlt : k < N
    · have cc := HC.out wr k hbq hlt
      by_cases hkn : k < n
      · rw [wide_lo l k (by rw [HL.out]; exact hkn)] at cc
        obtain ⟨b, off, rfl, hc⟩ := seg_at (HSG.out wr hbq) k (by rw [HL.out]; exact hkn)
        have cb := hc k (by rw [HL.out]; exact hkn)
        obtain ⟨q, hq⟩ : ∃ q, q = l.getD k 0 := ⟨_, rfl⟩
        rw [← hq] at cc cb
        clear hc hq
        have k0 : (0 : Int) ≤ (k : Int) := by omega
        have k1 : (k : Int) < (n : Int) := by omega
        have k2 : ((k : Int)).toNat = k := by omega
        have k3 : (k : Int) < (N : Int) := by omega
        have k4 : decide ((k : Int) < (n : Int)) = true := decide_eq_true k1
        have k5 : decide ((n : Int) ≤ (k : Int)) = false := decide_eq_false (by omega)
        have k6 : decide (n ≤ k) = false := decide_eq_false (by omega)
        have hqq : ((q : Int) != (q : Int)) = false := by simp
        have hbA : Below w.heap.size w wr.drew := hbq.drew
        have ccA : wr.drew.cell? ⟨g, k, none⟩ = some (.int .u8 (q : Int)) := cc
        have cbA : wr.drew.cell? ⟨b, off + k, none⟩ = some (.int .u8 (q : Int)) := cb
        go_upto_region 7 with fail
        refine Mix.start (by kernel_rfl) ?_
        obtain ⟨wA, hwA⟩ : ∃ wA, wA = wr.drew := ⟨_, rfl⟩
        rw [← hwA] at hbA ccA cbA ⊢
        clear hwA hbq cc cb
        refine Mix.take [true, true, true, true, true, true, true, true, false, true, true, true] 22 (by kernel_rfl) (by kernel_rfl) (by decide) (by kernel_rfl) (fun K hK => ?_)
        simp only [Mix.pick]
        repeat (go_big_quiet_step (fail))
        refine wpQuiet_nil (hK _ ?_)
        clear hK K
        refine Mix.pair [false, false, false, false, false, false, false, false, true] [false, false, false, false, false, false, false, false, false, false, false, false, true] 21 8 12 _ _ rfl rfl rfl rfl (by kernel_rfl) (by kernel_rfl) (fun K hK => ?_) (fun K hK => ?_)
        · simp only [Mix.pick]
          go_wp2
          refine ⟨rfl, hK _ _ ?_⟩
          clear hK K
          refine Mix.one [false, false, false, false, false, false, false, false, false, false, false, false, true] 20 12 _ rfl rfl (by kernel_rfl) (by kernel_rfl) (fun K hK => ?_)
          simp only [Mix.pick]
          go_wp2
          refine ⟨rfl, hK _ _ ?_⟩
          clear hK K
          refine Mix.take [false, false, false, false, false, false, false, false, false, false, false, false, false, true, true, true, true, true, true, true, true, true, true, true, false, true, true, true, true] 5 (by kernel_rfl) (by kernel_rfl) (by decide) (by kernel_rfl) (fun K hK => ?_)
          simp only [Mix.pick]
          repeat (go_big_quiet_step (fail))
          refine wpQuiet_nil (hK _ ?_)
          clear hK K
          refine Mix.pair [false, false, false, false, false, false, false, false, false, false, false, false, false, false, false, false, false, false, false, false, false, false, false, false, true] [false, false, false, false, false, false, false, false, false, false, false, false, false, false, false, false, false, false, false, false, false, false, false, false, false, false, false, false, false, true] 4 24 29 _ _ rfl rfl rfl rfl (by kernel_rfl) (by kernel_rfl) (fun K hK => ?_) (fun K hK => ?_)
          · simp only [Mix.pick]
            go_wp2
            refine ⟨rfl, hK _ _ ?_⟩
            clear hK K
            refine Mix.one [false, false, false, false, false, false, false, false, false, false, false, false, false, false, false, false, false, false, false, false, false, false, false, false, false, false, false, false, false, true] 3 29 _ rfl rfl (by kernel_rfl) (by kernel_rfl) (fun K hK => ?_)
            simp only [Mix.pick]
            go_wp2
            refine ⟨rfl, hK _ _ ?_⟩
            clear hK K
            refine Mix.take [false, false, false, false, false, false, false, false, false, false, false, false, false, false, false, false, false, false, false, false, false, false, false, false, false, false, false, false, false, false, true, true, true] 0 (by kernel_rfl) (by kernel_rfl) (by decide) (by kernel_rfl) (fun K hK => ?_)
            simp only [Mix.pick]
            repeat (go_big_quiet_step (fail))
            refine wpQuiet_nil (hK _ ?_)
            clear hK K
            refine Mix.done (by kernel_rfl) ?_
            go_wp2
            go_roundw
            case rel => exact ⟨k + 1, by omega, by go_num, hbA⟩
            case measure => simp [intOf]; omega
          · simp only [Mix.pick]
            go_wp2
            refine ⟨rfl, hK _ _ ?_⟩
            clear hK K
            refine Mix.one [false, false, false, false, false, false, false, false, false, false, false, false, false, false, false, false, false, false, false, false, false, false, false, false, true] 3 24 _ rfl rfl (by kernel_rfl) (by kernel_rfl) (fun K hK => ?_)
            simp only [Mix.pick]
            go_wp2
            refine ⟨rfl, hK _ _ ?_⟩
            clear hK K
            refine Mix.take [false, false, false, false, false, false, false, false, false, false, false, false, false, false, false, false, false, false, false, false, false, false, false, false, false, false, false, false, false, false, true, true, true] 0 (by kernel_rfl) (by kernel_rfl) (by decide) (by kernel_rfl) (fun K hK => ?_)
            simp only [Mix.pick]
            repeat (go_big_quiet_step (fail))
            refine wpQuiet_nil (hK _ ?_)
            clear hK K
            refine Mix.done (by kernel_rfl) ?_
            go_wp2
            go_roundw
            case rel => exact ⟨k + 1, by omega, by go_num, hbA⟩
            case measure => simp [intOf]; omega
        · simp only [Mix.pick]
          go_wp2
          refine ⟨rfl, hK _ _ ?_⟩
          clear hK K
          refine Mix.one [false, false, false, false, false, false, false, false, true] 20 8 _ rfl rfl (by kernel_rfl) (by kernel_rfl) (fun K hK => ?_)
          simp only [Mix.pick]
          go_wp2
          refine ⟨rfl, hK _ _ ?_⟩
          clear hK K
          refine Mix.take [false, false, false, false, false, false, false, false, false, false, false, false, false, true, true, true, true, true, true, true, true, true, true, true, false, true, true, true, true] 5 (by kernel_rfl) (by kernel_rfl) (by decide) (by kernel_rfl) (fun K hK => ?_)
          simp only [Mix.pick]
          repeat (go_big_quiet_step (fail))
          refine wpQuiet_nil (hK _ ?_)
          clear hK K
          refine Mix.pair [false, false, false, false, false, false, false, false, false, false, false, false, false, false, false, false, false, false, false, false, false, false, false, false, true] [false, false, false, false, false, false, false, false, false, false, false, false, false, false, false, false, false, false, false, false, false, false, false, false, false, false, false, false, false, true] 4 24 29 _ _ rfl rfl rfl rfl (by kernel_rfl) (by kernel_rfl) (fun K hK => ?_) (fun K hK => ?_)
          · simp only [Mix.pick]
            go_wp2
            refine ⟨rfl, hK _ _ ?_⟩
            clear hK K
            refine Mix.one [false, false, false, false, false, false, false, false, false, false, false, false, false, false, false, false, false, false, false, false, false, false, false, false, false, false, false, false, false, true] 3 29 _ rfl rfl (by kernel_rfl) (by kernel_rfl) (fun K hK => ?_)
            simp only [Mix.pick]
            go_wp2
            refine ⟨rfl, hK _ _ ?_⟩
            clear hK K
            refine Mix.take [false, false, false, false, false, false, false, false, false, false, false, false, false, false, false, false, false, false, false, false, false, false, false, false, false, false, false, false, false, false, true, true, true] 0 (by kernel_rfl) (by kernel_rfl) (by decide) (by kernel_rfl) (fun K hK => ?_)
            simp only [Mix.pick]
            repeat (go_big_quiet_step (fail))
            refine wpQuiet_nil (hK _ ?_)
            clear hK K
            refine Mix.done (by kernel_rfl) ?_
            go_wp2
            go_roundw
            case rel => exact ⟨k + 1, by omega, by go_num, hbA⟩
            case measure => simp [intOf]; omega
          · simp only [Mix.pick]
            go_wp2
            refine ⟨rfl, hK _ _ ?_⟩
            clear hK K
            refine Mix.one [false, false, false, false, false, false, false, false, false, false, false, false, false, false, false, false, false, false, false, false, false, false, false, false, true] 3 24 _ rfl rfl (by kernel_rfl) (by kernel_rfl) (fun K hK => ?_)
            simp only [Mix.pick]
            go_wp2
            refine ⟨rfl, hK _ _ ?_⟩
            clear hK K
            refine Mix.take [false, false, false, false, false, false, false, false, false, false, false, false, false, false, false, false, false, false, false, false, false, false, false, false, false, false, false, false, false, false, true, true, true] 0 (by kernel_rfl) (by kernel_rfl) (by decide) (by kernel_rfl) (fun K hK => ?_)
            simp only [Mix.pick]
            repeat (go_big_quiet_step (fail))
            refine wpQuiet_nil (hK _ ?_)
            clear hK K
            refine Mix.done (by kernel_rfl) ?_
            go_wp2
            go_roundw
            case rel => exact ⟨k + 1, by omega, by go_num, hbA⟩
            case measure => simp [intOf]; omega
      · rw [wide_hi l k (by rw [HL.out]; omega) (by have := HN.out; rw [HL.out]; omega), HL.out] at cc
        obtain ⟨j, rfl⟩ : ∃ j, k = n + j := ⟨k - n, by omega⟩
        rw [show n + j - n = j by omega] at cc
        obtain ⟨k, hkj⟩ : ∃ k, k = n + j := ⟨_, rfl⟩
        have HKJ : Hid (k = n + j) := hkj
        have k0 : (0 : Int) ≤ (k : Int) := by omega
        have k2 : ((k : Int)).toNat = k := by omega
        have k3 : (k : Int) < (N : Int) := by omega
        have k4 : decide ((k : Int) < (n : Int)) = false := decide_eq_false (by omega)
        have k5 : decide ((n : Int) ≤ (k : Int)) = true := decide_eq_true (by omega)
        have k6 : (k : Int) - (n : Int) = (j : Int) := by omega
        have k8 : decide (n ≤ k) = true := decide_eq_true (by omega)
        have k9 : decide (k < n) = false := decide_eq_false (by omega)
        have k7 : IntKind.i64.wrap ((k : Int) - (n : Int)) = (j : Int) := by rw [k6, IntKind.wrap_i64]; omega
        have hj2 : j ≤ 4398046511104 := by omega
        have hkN : k < N := by omega
        obtain ⟨q, hq⟩ : ∃ q, q = bh j := ⟨_, rfl⟩
        have HQ : Hid (bh j = q) := hq.symm
        rw [← hkj, ← hq] at cc
        rw [← hkj]
        have hqq : ((q : Int) != (q : Int)) = false := by simp
        have hbA : Below w.heap.size w wr.drew := hbq.drew
        have ccA : wr.drew.cell? ⟨g, k, none⟩ = some (.int .u8 (q : Int)) := cc
        clear hq hkj hlt hkn hk
        go_upto_region 7 with fail
        refine Mix.start (by kernel_rfl) ?_
        obtain ⟨wA, hwA⟩ : ∃ wA, wA = wr.drew := ⟨_, rfl⟩
        rw [← hwA] at hbA ccA ⊢
        clear hwA hbq cc
        refine Mix.take [true, true, true, true, true, true, true, true, false, true, true, true] 22 (by kernel_rfl) (by kernel_rfl) (by decide) (by kernel_rfl) (fun K hK => ?_)
        simp only [Mix.pick]
        repeat (go_big_quiet_step (fail))
        refine wpQuiet_nil (hK _ ?_)
        clear hK K
        refine Mix.pair [false, false, false, false, false, false, false, false, true] [false, false, false, false, false, false, false, false, false, false, false, false, true] 21 8 12 _ _ rfl rfl rfl rfl (by kernel_rfl) (by kernel_rfl) (fun K hK => ?_) (fun K hK => ?_)
        · simp only [Mix.pick]
          go_wp2
          refine ⟨rfl, hK _ _ ?_⟩
          clear hK K
          refine Mix.one [false, false, false, false, false, false, false, false, false, false, false, false, true] 20 12 _ rfl rfl (by kernel_rfl) (by kernel_rfl) (fun K hK => ?_)
          simp only [Mix.pick]
          go_wp2
          refine ⟨rfl, hK _ _ ?_⟩
          clear hK K
          refine Mix.take [false, false, false, false, false, false, false, false, false, false, false, false, false, true, true, true, true, true, true, true, true, true, true, true, false, true, true, true, true] 5 (by kernel_rfl) (by kernel_rfl) (by decide) (by kernel_rfl) (fun K hK => ?_)
          simp only [Mix.pick]
          repeat (go_big_quiet_step (fail))
          refine wpQuiet_nil (hK _ ?_)
          clear hK K
          refine Mix.pair [false, false, false, false, false, false, false, false, false, false, false, false, false, false, false, false, false, false, false, false, false, false, false, false, true] [false, false, false, false, false, false, false, false, false, false, false, false, false, false, false, false, false, false, false, false, false, false, false, false, false, false, false, false, false, true] 4 24 29 _ _ rfl rfl rfl rfl (by kernel_rfl) (by kernel_rfl) (fun K hK => ?_) (fun K hK => ?_)
          · simp only [Mix.pick]
            go_wp2
            refine ⟨rfl, hK _ _ ?_⟩
            clear hK K
            refine Mix.one [false, false, false, false, false, false, false, false, false, false, false, false, false, false, false, false, false, false, false, false, false, false, false, false, false, false, false, false, false, true] 3 29 _ rfl rfl (by kernel_rfl) (by kernel_rfl) (fun K hK => ?_)
            simp only [Mix.pick]
            go_wp2_with fail
            refine (behind_any j _ hj2).mono ?_
            rintro e w5 ⟨rfl, rfl⟩
            rw [HQ.out]
            go_wp2
            refine ⟨rfl, hK _ _ ?_⟩
            clear hK K
            refine Mix.take [false, false, false, false, false, false, false, false, false, false, false, false, false, false, false, false, false, false, false, false, false, false, false, false, false, false, false, false, false, false, true, true, true] 0 (by kernel_rfl) (by kernel_rfl) (by decide) (by kernel_rfl) (fun K hK => ?_)
            simp only [Mix.pick]
            repeat (go_big_quiet_step (fail))
            refine wpQuiet_nil (hK _ ?_)
            clear hK K
            refine Mix.done (by kernel_rfl) ?_
            go_wp2
            go_roundw
            case rel => exact ⟨k + 1, by omega, by go_num, hbA⟩
            case measure => simp [intOf]; omega
          · simp only [Mix.pick]
            go_wp2_with fail
            refine (behind_any j _ hj2).mono ?_
            rintro e w5 ⟨rfl, rfl⟩
            rw [HQ.out]
            go_wp2
            refine ⟨rfl, hK _ _ ?_⟩
            clear hK K
            refine Mix.one [false, false, false, false, false, false, false, false, false, false, false, false, false, false, false, false, false, false, false, false, false, false, false, false, true] 3 24 _ rfl rfl (by kernel_rfl) (by kernel_rfl) (fun K hK => ?_)
            simp only [Mix.pick]
            go_wp2
            refine ⟨rfl, hK _ _ ?_⟩
            clear hK K
            refine Mix.take [false, false, false, false, false, false, false, false, false, false, false, false, false, false, false, false, false, false, false, false, false, false, false, false, false, false, false, false, false, false, true, true, true] 0 (by kernel_rfl) (by kernel_rfl) (by decide) (by kernel_rfl) (fun K hK => ?_)
            simp only [Mix.pick]
            repeat (go_big_quiet_step (fail))
            refine wpQuiet_nil (hK _ ?_)
            clear hK K
            refine Mix.done (by kernel_rfl) ?_
            go_wp2
            go_roundw
            case rel => exact ⟨k + 1, by omega, by go_num, hbA⟩
            case measure => simp [intOf]; omega
        · simp only [Mix.pick]
          go_wp2
          refine ⟨rfl, hK _ _ ?_⟩
          clear hK K
          refine Mix.one [false, false, false, false, false, false, false, false, true] 20 8 _ rfl rfl (by kernel_rfl) (by kernel_rfl) (fun K hK => ?_)
          simp only [Mix.pick]
          go_wp2
          refine ⟨rfl, hK _ _ ?_⟩
          clear hK K
          refine Mix.take [false, false, false, false, false, false, false, false, false, false, false, false, false, true, true, true, true, true, true, true, true, true, true, true, false, true, true, true, true] 5 (by kernel_rfl) (by kernel_rfl) (by decide) (by kernel_rfl) (fun K hK => ?_)
          simp only [Mix.pick]
          repeat (go_big_quiet_step (fail))
          refine wpQuiet_nil (hK _ ?_)
          clear hK K
          refine Mix.pair [false, false, false, false, false, false, false, false, false, false, false, false, false, false, false, false, false, false, false, false, false, false, false, false, true] [false, false, false, false, false, false, false, false, false, false, false, false, false, false, false, false, false, false, false, false, false, false, false, false, false, false, false, false, false, true] 4 24 29 _ _ rfl rfl rfl rfl (by kernel_rfl) (by kernel_rfl) (fun K hK => ?_) (fun K hK => ?_)
          · simp only [Mix.pick]
            go_wp2
            refine ⟨rfl, hK _ _ ?_⟩
            clear hK K
            refine Mix.one [false, false, false, false, false, false, false, false, false, false, false, false, false, false, false, false, false, false, false, false, false, false, false, false, false, false, false, false, false, true] 3 29 _ rfl rfl (by kernel_rfl) (by kernel_rfl) (fun K hK => ?_)
            simp only [Mix.pick]
            go_wp2_with fail
            refine (behind_any j _ hj2).mono ?_
            rintro e w5 ⟨rfl, rfl⟩
            rw [HQ.out]
            go_wp2
            refine ⟨rfl, hK _ _ ?_⟩
            clear hK K
            refine Mix.take [false, false, false, false, false, false, false, false, false, false, false, false, false, false, false, false, false, false, false, false, false, false, false, false, false, false, false, false, false, false, true, true, true] 0 (by kernel_rfl) (by kernel_rfl) (by decide) (by kernel_rfl) (fun K hK => ?_)
            simp only [Mix.pick]
            repeat (go_big_quiet_step (fail))
            refine wpQuiet_nil (hK _ ?_)
            clear hK K
            refine Mix.done (by kernel_rfl) ?_
            go_wp2
            go_roundw
            case rel => exact ⟨k + 1, by omega, by go_num, hbA⟩
            case measure => simp [intOf]; omega
          · simp only [Mix.pick]
            go_wp2_with fail
            refine (behind_any j _ hj2).mono ?_
            rintro e w5 ⟨rfl, rfl⟩
            rw [HQ.out]
            go_wp2
            refine ⟨rfl, hK _ _ ?_⟩
            clear hK K
            refine Mix.one [false, false, false, false, false, false, false, false, false, false, false, false, false, false, false, false, false, false, false, false, false, false, false, false, true] 3 24 _ rfl rfl (by kernel_rfl) (by kernel_rfl) (fun K hK => ?_)
            simp only [Mix.pick]
            go_wp2
            refine ⟨rfl, hK _ _ ?_⟩
            clear hK K
            refine Mix.take [false, false, false, false, false, false, false, false, false, false, false, false, false, false, false, false, false, false, false, false, false, false, false, false, false, false, false, false, false, false, true, true, true] 0 (by kernel_rfl) (by kernel_rfl) (by decide) (by kernel_rfl) (fun K hK => ?_)
            simp only [Mix.pick]
            repeat (go_big_quiet_step (fail))
            refine wpQuiet_nil (hK _ ?_)
            clear hK K
            refine Mix.done (by kernel_rfl) ?_
            go_wp2
            go_roundw
            case rel => exact ⟨k + 1, by omega, by go_num, hbA⟩
            case measure => simp [intOf]; omega
    · go_wp2
      go_ret
      exact ⟨rfl, hbq⟩
end Go.Proofs.Ytbbhnekdejamiaa.Wd
