/-
  The statements' as: all answers are what the document says.
-/
import Derived.Test.YtcgfdhmegagjdaaAsked
namespace Go.Proofs.Ytcgfdhmegagjdaa.Ls
open Go.RowKit

/-- the answers are the document's -/
structure Good (N : Nat → Nat) (C : Nat → Nat → List Value) : Prop where
  e0 : N 1 = N 0
  e2 : N 3 = N 2
  b : ∀ i, i < N 0 → ∃ l : List Nat, C 0 i = (toI l).map (Value.int .u8) ∧ C 1 i = (toI l).map (Value.int .u8) ∧ ∀ x ∈ l, x < 256
  n : ∀ i, i < N 2 → ∃ l : List Nat, C 2 i = (toI l).map (Value.int .i64) ∧ C 3 i = (toI l).map (Value.int .i64) ∧ l.length ≤ 64

set_option maxRecDepth 100000 in
set_option maxHeartbeats 3200000 in
theorem as_any (w0 w : World) (X : Nat) (col N : Nat → Nat) (lv : Nat → Value) (R : Nat → Nat → Value) (C : Nat → Nat → List Value) (h : LS 4 tyL etL w0 w X col N lv R C) (hg : Good N C) (hN : ∀ f, f < 4 → N f ≤ 100) :
    Calls Try.prog 31 #[.pointer (some ⟨X, 0, none⟩)] w fun e w' => e = .returned (.bool true) ∧ Below w.heap.size w w' := by
  have hN0 := hN 0 (by decide)
  have hN2 := hN 2 (by decide)
  obtain ⟨a0, c0, e0⟩ := owns_shape (h.lst 0 (by decide))
  obtain ⟨a2, c2, e2⟩ := owns_shape (h.lst 2 (by decide))
  obtain ⟨n0, hn0⟩ : ∃ n0, n0 = N 0 := ⟨_, rfl⟩
  obtain ⟨n2, hn2⟩ : ∃ n2, n2 = N 2 := ⟨_, rfl⟩
  have HV0 : Hid (lv 0 = .slice a0 n0 c0) := by show _ = _; rw [e0, hn0]
  have HV2 : Hid (lv 2 = .slice a2 n2 c2) := by show _ = _; rw [e2, hn2]
  have HN0 : Hid (N 0 = n0) := hn0.symm
  have HN2 : Hid (N 2 = n2) := hn2.symm
  have hn0b : n0 ≤ 100 := by omega
  have hn2b : n2 ≤ 100 := by omega
  have HE0 : Hid (N 1 = N 0) := hg.e0
  have HE2 : Hid (N 3 = N 2) := hg.e2
  have HP0 : Hid (∀ i, i < N 0 → ∃ l : List Nat, C 0 i = (toI l).map (Value.int .u8) ∧ C 1 i = (toI l).map (Value.int .u8) ∧ ∀ x ∈ l, x < 256) := hg.b
  have HP2 : Hid (∀ i, i < N 2 → ∃ l : List Nat, C 2 i = (toI l).map (Value.int .i64) ∧ C 3 i = (toI l).map (Value.int .i64) ∧ l.length ≤ 64) := hg.n
  have x0 := h.cell 0 (by decide)
  rw [HV0.out] at x0
  clear e0 e2 hn0 hn2 hN0 hN2
  go_enter Try.func31, Try.ntmps31
  go_wp2
  clear x0
  go_loopw [3] (fun ix wr => ∃ i : Nat, i ≤ n0 ∧ ix = .int .i64 i ∧ Below w.heap.size w wr) (fun ix _ => n0 - (intOf ix).toNat)
  case atStart => exact ⟨0, Nat.zero_le _, rfl, Below.refl _ _⟩
  case round =>
  obtain ⟨i, hi, rfl, hbel⟩ := hrel
  have hLSr := h.below hbel
  have x0 := hLSr.cell 0 (by decide)
  rw [HV0.out] at x0
  by_cases hlt : i < n0
  · have hiN : i < N 0 := by rw [HN0.out]; exact hlt
    obtain ⟨l, hc1, hc2, hl2⟩ := HP0.out i hiN
    have hLSd := hLSr.below (Below.refl _ _).drew
    have hr1 := hLSd.row 0 (by decide) i hiN
    have hr2 := hLSd.row 1 (by decide) i (by rw [HE0.out]; exact hiN)
    rw [hc1, List.length_map, toI_len] at hr1
    rw [hc2, List.length_map, toI_len] at hr2
    obtain ⟨ra, rc, er1⟩ := owns_shape hr1
    obtain ⟨sa, sc, er2⟩ := owns_shape hr2
    have hl1 := hLSd.lst 0 (by decide)
    have hl2' := hLSd.lst 1 (by decide)
    obtain ⟨g1, cc1, e1, _, _⟩ := own_block hl1 (by omega)
    obtain ⟨g2, cc2, e2, _, _⟩ := own_block hl2' (by rw [HE0.out]; omega)
    have y1 : wr.drew.cell? ⟨g1, i, none⟩ = some (.slice ra l.length rc) := by
      rw [e1] at hl1
      rw [hl1.cellAt i (by omega), ← er1]
      simp [hiN]
    have y2 : wr.drew.cell? ⟨g2, i, none⟩ = some (.slice sa l.length sc) := by
      rw [e2] at hl2'
      have hiG : i < N 1 := by rw [HE0.out]; exact hiN
      rw [hl2'.cellAt i (by omega), ← er2]
      simp [hiG]
    have z1 : wr.drew.cell? ⟨X, 0, none⟩ = some (.slice (some ⟨g1, 0, none⟩) n0 cc1) := by rw [hLSd.cell 0 (by decide), e1, HN0.out]
    have z2 : wr.drew.cell? ⟨X, 1, none⟩ = some (.slice (some ⟨g2, 0, none⟩) n0 cc2) := by rw [hLSd.cell 1 (by decide), e2, HE0.out, HN0.out]
    have HBW : Hid (∀ W, wr.drew = W → Below w.heap.size w W) := fun W hW => by rw [← hW]; exact hbel.drew
    have HS0 : Hid _ := same_eq' ra sa l.length rc sc l wr.drew rfl (owns_seg_at (by rw [er1] at hr1; exact hr1)) (owns_seg_at (by rw [er2] at hr2; exact hr2)) hl2
    obtain ⟨ll, hll⟩ : ∃ ll, ll = l.length := ⟨_, rfl⟩
    rw [← hll] at y1 y2 HS0
    have i0 : (0 : Int) ≤ (i : Int) := by omega
    have i1 : (i : Int) < (n0 : Int) := by omega
    have i2 : ((i : Int)).toNat = i := by omega
    clear hll hr1 hr2 er1 er2 e1 e2 hl1 hl2' hc1 hc2 hLSd hLSr
    go_upto_region 4 with fail
    go_cut [29] (fun s wx => s = .bool false ∧ Below w.heap.size w wx)
    case first =>
      refine Mix.start (by kernel_rfl) ?_
      refine Mix.take [true, true, true, false, true, false, false, true, true, true, false, true] 8 (by kernel_rfl) (by kernel_rfl) (by decide) (by kernel_rfl) (fun K hK => ?_)
      simp only [Mix.pick]
      repeat (go_big_quiet_step (fail))
      refine wpQuiet_nil (hK _ ?_)
      clear hK K
      refine Mix.pair [false, false, false, true] [false, false, false, false, false, false, false, false, false, false, true] 7 3 10 _ _ rfl rfl rfl rfl (by kernel_rfl) (by kernel_rfl) (fun K hK => ?_) (fun K hK => ?_)
      · simp only [Mix.pick]
        go_wp2
        refine ⟨rfl, hK _ _ ?_⟩
        clear hK K
        refine Mix.take [false, false, false, false, false, true] 6 (by kernel_rfl) (by kernel_rfl) (by decide) (by kernel_rfl) (fun K hK => ?_)
        simp only [Mix.pick]
        repeat (go_big_quiet_step (fail))
        refine wpQuiet_nil (hK _ ?_)
        clear hK K
        refine Mix.pair [false, false, false, false, false, false, true] [false, false, false, false, false, false, false, false, false, false, true] 5 6 10 _ _ rfl rfl rfl rfl (by kernel_rfl) (by kernel_rfl) (fun K hK => ?_) (fun K hK => ?_)
        · simp only [Mix.pick]
          go_wp2
          refine ⟨rfl, hK _ _ ?_⟩
          clear hK K
          refine Mix.one [false, false, false, false, false, false, false, false, false, false, true] 4 10 _ rfl rfl (by kernel_rfl) (by kernel_rfl) (fun K hK => ?_)
          simp only [Mix.pick]
          go_wp2
          refine ⟨rfl, hK _ _ ?_⟩
          clear hK K
          refine Mix.take [false, false, false, false, false, false, false, false, false, false, false, false, true] 3 (by kernel_rfl) (by kernel_rfl) (by decide) (by kernel_rfl) (fun K hK => ?_)
          simp only [Mix.pick]
          repeat (go_big_quiet_step (fail))
          refine wpQuiet_nil (hK _ ?_)
          clear hK K
          refine Mix.one [false, false, false, false, false, false, false, false, false, false, false, false, false, true] 2 13 _ rfl rfl (by kernel_rfl) (by kernel_rfl) (fun K hK => ?_)
          simp only [Mix.pick]
          go_wp2
          refine ⟨rfl, hK _ _ ?_⟩
          clear hK K
          refine Mix.one [false, false, false, false, false, false, false, false, false, false, false, false, false, false, true] 1 14 _ rfl rfl (by kernel_rfl) (by kernel_rfl) (fun K hK => ?_)
          simp only [Mix.pick]
          go_wp2_with fail
          refine Calls.mono HS0.out ?_
          rintro e w' ⟨rfl, hw'⟩
          go_wp2
          refine ⟨rfl, hK _ _ ?_⟩
          clear hK K
          refine Mix.take [false, false, false, false, false, false, false, false, false, false, false, false, false, false, false, true] 0 (by kernel_rfl) (by kernel_rfl) (by decide) (by kernel_rfl) (fun K hK => ?_)
          simp only [Mix.pick]
          repeat (go_big_quiet_step (fail))
          refine wpQuiet_nil (hK _ ?_)
          clear hK K
          refine Mix.done (by kernel_rfl) ?_
          first | go_meet | (go_wp2; go_meet)
          exact ⟨rfl, HBW.out _ hw'⟩
        · simp only [Mix.pick]
          go_wp2
          refine ⟨rfl, hK _ _ ?_⟩
          clear hK K
          refine Mix.take [false, false, false, false, false, false, false, false, false, false, false, false, true] 4 (by kernel_rfl) (by kernel_rfl) (by decide) (by kernel_rfl) (fun K hK => ?_)
          simp only [Mix.pick]
          repeat (go_big_quiet_step (fail))
          refine wpQuiet_nil (hK _ ?_)
          clear hK K
          refine Mix.pair [false, false, false, false, false, false, true] [false, false, false, false, false, false, false, false, false, false, false, false, false, true] 3 6 13 _ _ rfl rfl rfl rfl (by kernel_rfl) (by kernel_rfl) (fun K hK => ?_) (fun K hK => ?_)
          · simp only [Mix.pick]
            go_wp2
            refine ⟨rfl, hK _ _ ?_⟩
            clear hK K
            refine Mix.one [false, false, false, false, false, false, false, false, false, false, false, false, false, true] 2 13 _ rfl rfl (by kernel_rfl) (by kernel_rfl) (fun K hK => ?_)
            simp only [Mix.pick]
            go_wp2
            refine ⟨rfl, hK _ _ ?_⟩
            clear hK K
            refine Mix.one [false, false, false, false, false, false, false, false, false, false, false, false, false, false, true] 1 14 _ rfl rfl (by kernel_rfl) (by kernel_rfl) (fun K hK => ?_)
            simp only [Mix.pick]
            go_wp2_with fail
            refine Calls.mono HS0.out ?_
            rintro e w' ⟨rfl, hw'⟩
            go_wp2
            refine ⟨rfl, hK _ _ ?_⟩
            clear hK K
            refine Mix.take [false, false, false, false, false, false, false, false, false, false, false, false, false, false, false, true] 0 (by kernel_rfl) (by kernel_rfl) (by decide) (by kernel_rfl) (fun K hK => ?_)
            simp only [Mix.pick]
            repeat (go_big_quiet_step (fail))
            refine wpQuiet_nil (hK _ ?_)
            clear hK K
            refine Mix.done (by kernel_rfl) ?_
            first | go_meet | (go_wp2; go_meet)
            exact ⟨rfl, HBW.out _ hw'⟩
          · simp only [Mix.pick]
            go_wp2
            refine ⟨rfl, hK _ _ ?_⟩
            clear hK K
            refine Mix.one [false, false, false, false, false, false, true] 2 6 _ rfl rfl (by kernel_rfl) (by kernel_rfl) (fun K hK => ?_)
            simp only [Mix.pick]
            go_wp2
            refine ⟨rfl, hK _ _ ?_⟩
            clear hK K
            refine Mix.one [false, false, false, false, false, false, false, false, false, false, false, false, false, false, true] 1 14 _ rfl rfl (by kernel_rfl) (by kernel_rfl) (fun K hK => ?_)
            simp only [Mix.pick]
            go_wp2_with fail
            refine Calls.mono HS0.out ?_
            rintro e w' ⟨rfl, hw'⟩
            go_wp2
            refine ⟨rfl, hK _ _ ?_⟩
            clear hK K
            refine Mix.take [false, false, false, false, false, false, false, false, false, false, false, false, false, false, false, true] 0 (by kernel_rfl) (by kernel_rfl) (by decide) (by kernel_rfl) (fun K hK => ?_)
            simp only [Mix.pick]
            repeat (go_big_quiet_step (fail))
            refine wpQuiet_nil (hK _ ?_)
            clear hK K
            refine Mix.done (by kernel_rfl) ?_
            first | go_meet | (go_wp2; go_meet)
            exact ⟨rfl, HBW.out _ hw'⟩
      · simp only [Mix.pick]
        go_wp2
        refine ⟨rfl, hK _ _ ?_⟩
        clear hK K
        refine Mix.take [false, false, false, false, false, false, false, false, false, false, false, false, true] 6 (by kernel_rfl) (by kernel_rfl) (by decide) (by kernel_rfl) (fun K hK => ?_)
        simp only [Mix.pick]
        repeat (go_big_quiet_step (fail))
        refine wpQuiet_nil (hK _ ?_)
        clear hK K
        refine Mix.pair [false, false, false, true] [false, false, false, false, false, false, false, false, false, false, false, false, false, true] 5 3 13 _ _ rfl rfl rfl rfl (by kernel_rfl) (by kernel_rfl) (fun K hK => ?_) (fun K hK => ?_)
        · simp only [Mix.pick]
          go_wp2
          refine ⟨rfl, hK _ _ ?_⟩
          clear hK K
          refine Mix.take [false, false, false, false, false, true] 4 (by kernel_rfl) (by kernel_rfl) (by decide) (by kernel_rfl) (fun K hK => ?_)
          simp only [Mix.pick]
          repeat (go_big_quiet_step (fail))
          refine wpQuiet_nil (hK _ ?_)
          clear hK K
          refine Mix.pair [false, false, false, false, false, false, true] [false, false, false, false, false, false, false, false, false, false, false, false, false, true] 3 6 13 _ _ rfl rfl rfl rfl (by kernel_rfl) (by kernel_rfl) (fun K hK => ?_) (fun K hK => ?_)
          · simp only [Mix.pick]
            go_wp2
            refine ⟨rfl, hK _ _ ?_⟩
            clear hK K
            refine Mix.one [false, false, false, false, false, false, false, false, false, false, false, false, false, true] 2 13 _ rfl rfl (by kernel_rfl) (by kernel_rfl) (fun K hK => ?_)
            simp only [Mix.pick]
            go_wp2
            refine ⟨rfl, hK _ _ ?_⟩
            clear hK K
            refine Mix.one [false, false, false, false, false, false, false, false, false, false, false, false, false, false, true] 1 14 _ rfl rfl (by kernel_rfl) (by kernel_rfl) (fun K hK => ?_)
            simp only [Mix.pick]
            go_wp2_with fail
            refine Calls.mono HS0.out ?_
            rintro e w' ⟨rfl, hw'⟩
            go_wp2
            refine ⟨rfl, hK _ _ ?_⟩
            clear hK K
            refine Mix.take [false, false, false, false, false, false, false, false, false, false, false, false, false, false, false, true] 0 (by kernel_rfl) (by kernel_rfl) (by decide) (by kernel_rfl) (fun K hK => ?_)
            simp only [Mix.pick]
            repeat (go_big_quiet_step (fail))
            refine wpQuiet_nil (hK _ ?_)
            clear hK K
            refine Mix.done (by kernel_rfl) ?_
            first | go_meet | (go_wp2; go_meet)
            exact ⟨rfl, HBW.out _ hw'⟩
          · simp only [Mix.pick]
            go_wp2
            refine ⟨rfl, hK _ _ ?_⟩
            clear hK K
            refine Mix.one [false, false, false, false, false, false, true] 2 6 _ rfl rfl (by kernel_rfl) (by kernel_rfl) (fun K hK => ?_)
            simp only [Mix.pick]
            go_wp2
            refine ⟨rfl, hK _ _ ?_⟩
            clear hK K
            refine Mix.one [false, false, false, false, false, false, false, false, false, false, false, false, false, false, true] 1 14 _ rfl rfl (by kernel_rfl) (by kernel_rfl) (fun K hK => ?_)
            simp only [Mix.pick]
            go_wp2_with fail
            refine Calls.mono HS0.out ?_
            rintro e w' ⟨rfl, hw'⟩
            go_wp2
            refine ⟨rfl, hK _ _ ?_⟩
            clear hK K
            refine Mix.take [false, false, false, false, false, false, false, false, false, false, false, false, false, false, false, true] 0 (by kernel_rfl) (by kernel_rfl) (by decide) (by kernel_rfl) (fun K hK => ?_)
            simp only [Mix.pick]
            repeat (go_big_quiet_step (fail))
            refine wpQuiet_nil (hK _ ?_)
            clear hK K
            refine Mix.done (by kernel_rfl) ?_
            first | go_meet | (go_wp2; go_meet)
            exact ⟨rfl, HBW.out _ hw'⟩
        · simp only [Mix.pick]
          go_wp2
          refine ⟨rfl, hK _ _ ?_⟩
          clear hK K
          refine Mix.one [false, false, false, true] 4 3 _ rfl rfl (by kernel_rfl) (by kernel_rfl) (fun K hK => ?_)
          simp only [Mix.pick]
          go_wp2
          refine ⟨rfl, hK _ _ ?_⟩
          clear hK K
          refine Mix.take [false, false, false, false, false, true] 3 (by kernel_rfl) (by kernel_rfl) (by decide) (by kernel_rfl) (fun K hK => ?_)
          simp only [Mix.pick]
          repeat (go_big_quiet_step (fail))
          refine wpQuiet_nil (hK _ ?_)
          clear hK K
          refine Mix.one [false, false, false, false, false, false, true] 2 6 _ rfl rfl (by kernel_rfl) (by kernel_rfl) (fun K hK => ?_)
          simp only [Mix.pick]
          go_wp2
          refine ⟨rfl, hK _ _ ?_⟩
          clear hK K
          refine Mix.one [false, false, false, false, false, false, false, false, false, false, false, false, false, false, true] 1 14 _ rfl rfl (by kernel_rfl) (by kernel_rfl) (fun K hK => ?_)
          simp only [Mix.pick]
          go_wp2_with fail
          refine Calls.mono HS0.out ?_
          rintro e w' ⟨rfl, hw'⟩
          go_wp2
          refine ⟨rfl, hK _ _ ?_⟩
          clear hK K
          refine Mix.take [false, false, false, false, false, false, false, false, false, false, false, false, false, false, false, true] 0 (by kernel_rfl) (by kernel_rfl) (by decide) (by kernel_rfl) (fun K hK => ?_)
          simp only [Mix.pick]
          repeat (go_big_quiet_step (fail))
          refine wpQuiet_nil (hK _ ?_)
          clear hK K
          refine Mix.done (by kernel_rfl) ?_
          first | go_meet | (go_wp2; go_meet)
          exact ⟨rfl, HBW.out _ hw'⟩
    case rest =>
    obtain ⟨rfl, hbc⟩ := hcut
    clear z1 z2 y1 y2 HS0 HBW x0
    go_wp2
    go_roundw
    case rel => exact ⟨i + 1, by omega, by go_num, hbc⟩
    case measure => simp [intOf]; omega
  · have hb0 := hbel
    clear hbel hLSr
    have x2 := (h.below hb0).cell 2 (by decide)
    rw [HV2.out] at x2
    go_wp2
    clear x0 x2
    go_loopw [4] (fun ix wr => ∃ i : Nat, i ≤ n2 ∧ ix = .int .i64 i ∧ Below w.heap.size w wr) (fun ix _ => n2 - (intOf ix).toNat)
    case atStart => exact ⟨0, Nat.zero_le _, rfl, hb0⟩
    case round =>
    obtain ⟨i, hi, rfl, hbel⟩ := hrel
    have hLSr := h.below hbel
    have x2 := hLSr.cell 2 (by decide)
    rw [HV2.out] at x2
    by_cases hlt : i < n2
    · have hiN : i < N 2 := by rw [HN2.out]; exact hlt
      obtain ⟨l, hc1, hc2, hl2⟩ := HP2.out i hiN
      have hLSd := hLSr.below (Below.refl _ _).drew
      have hr1 := hLSd.row 2 (by decide) i hiN
      have hr2 := hLSd.row 3 (by decide) i (by rw [HE2.out]; exact hiN)
      rw [hc1, List.length_map, toI_len] at hr1
      rw [hc2, List.length_map, toI_len] at hr2
      obtain ⟨ra, rc, er1⟩ := owns_shape hr1
      obtain ⟨sa, sc, er2⟩ := owns_shape hr2
      have hl1 := hLSd.lst 2 (by decide)
      have hl2' := hLSd.lst 3 (by decide)
      obtain ⟨g1, cc1, e1, _, _⟩ := own_block hl1 (by omega)
      obtain ⟨g2, cc2, e2, _, _⟩ := own_block hl2' (by rw [HE2.out]; omega)
      have y1 : wr.drew.cell? ⟨g1, i, none⟩ = some (.slice ra l.length rc) := by
        rw [e1] at hl1
        rw [hl1.cellAt i (by omega), ← er1]
        simp [hiN]
      have y2 : wr.drew.cell? ⟨g2, i, none⟩ = some (.slice sa l.length sc) := by
        rw [e2] at hl2'
        have hiG : i < N 3 := by rw [HE2.out]; exact hiN
        rw [hl2'.cellAt i (by omega), ← er2]
        simp [hiG]
      have z1 : wr.drew.cell? ⟨X, 2, none⟩ = some (.slice (some ⟨g1, 0, none⟩) n2 cc1) := by rw [hLSd.cell 2 (by decide), e1, HN2.out]
      have z2 : wr.drew.cell? ⟨X, 3, none⟩ = some (.slice (some ⟨g2, 0, none⟩) n2 cc2) := by rw [hLSd.cell 3 (by decide), e2, HE2.out, HN2.out]
      have HBW : Hid (∀ W, Below wr.drew.heap.size wr.drew W → Below w.heap.size w W) := fun W hW => by exact hbel.drew.trans (hW.mono hbel.size)
      have HS2 : Hid _ := sameInts_true ra sa rc sc l.length (toI l) wr.drew (owns_seg_at (by rw [er1] at hr1; exact hr1)) (owns_seg_at (by rw [er2] at hr2; exact hr2)) (toI_len l) (by omega)
      obtain ⟨ll, hll⟩ : ∃ ll, ll = l.length := ⟨_, rfl⟩
      rw [← hll] at y1 y2 HS2
      have i0 : (0 : Int) ≤ (i : Int) := by omega
      have i1 : (i : Int) < (n2 : Int) := by omega
      have i2 : ((i : Int)).toNat = i := by omega
      clear hll hr1 hr2 er1 er2 e1 e2 hl1 hl2' hc1 hc2 hLSd hLSr
      go_upto_region 9 with fail
      go_cut [54] (fun s wx => s = .bool false ∧ Below w.heap.size w wx)
      case first =>
        refine Mix.start (by kernel_rfl) ?_
        refine Mix.take [true, true, true, false, true, false, false, true, true, true, false, true] 8 (by kernel_rfl) (by kernel_rfl) (by decide) (by kernel_rfl) (fun K hK => ?_)
        simp only [Mix.pick]
        repeat (go_big_quiet_step (fail))
        refine wpQuiet_nil (hK _ ?_)
        clear hK K
        refine Mix.pair [false, false, false, true] [false, false, false, false, false, false, false, false, false, false, true] 7 3 10 _ _ rfl rfl rfl rfl (by kernel_rfl) (by kernel_rfl) (fun K hK => ?_) (fun K hK => ?_)
        · simp only [Mix.pick]
          go_wp2
          refine ⟨rfl, hK _ _ ?_⟩
          clear hK K
          refine Mix.take [false, false, false, false, false, true] 6 (by kernel_rfl) (by kernel_rfl) (by decide) (by kernel_rfl) (fun K hK => ?_)
          simp only [Mix.pick]
          repeat (go_big_quiet_step (fail))
          refine wpQuiet_nil (hK _ ?_)
          clear hK K
          refine Mix.pair [false, false, false, false, false, false, true] [false, false, false, false, false, false, false, false, false, false, true] 5 6 10 _ _ rfl rfl rfl rfl (by kernel_rfl) (by kernel_rfl) (fun K hK => ?_) (fun K hK => ?_)
          · simp only [Mix.pick]
            go_wp2
            refine ⟨rfl, hK _ _ ?_⟩
            clear hK K
            refine Mix.one [false, false, false, false, false, false, false, false, false, false, true] 4 10 _ rfl rfl (by kernel_rfl) (by kernel_rfl) (fun K hK => ?_)
            simp only [Mix.pick]
            go_wp2
            refine ⟨rfl, hK _ _ ?_⟩
            clear hK K
            refine Mix.take [false, false, false, false, false, false, false, false, false, false, false, false, true] 3 (by kernel_rfl) (by kernel_rfl) (by decide) (by kernel_rfl) (fun K hK => ?_)
            simp only [Mix.pick]
            repeat (go_big_quiet_step (fail))
            refine wpQuiet_nil (hK _ ?_)
            clear hK K
            refine Mix.one [false, false, false, false, false, false, false, false, false, false, false, false, false, true] 2 13 _ rfl rfl (by kernel_rfl) (by kernel_rfl) (fun K hK => ?_)
            simp only [Mix.pick]
            go_wp2
            refine ⟨rfl, hK _ _ ?_⟩
            clear hK K
            refine Mix.one [false, false, false, false, false, false, false, false, false, false, false, false, false, false, true] 1 14 _ rfl rfl (by kernel_rfl) (by kernel_rfl) (fun K hK => ?_)
            simp only [Mix.pick]
            go_wp2_with fail
            refine Calls.mono HS2.out ?_
            rintro e w' ⟨rfl, hw'⟩
            go_wp2
            refine ⟨rfl, hK _ _ ?_⟩
            clear hK K
            refine Mix.take [false, false, false, false, false, false, false, false, false, false, false, false, false, false, false, true] 0 (by kernel_rfl) (by kernel_rfl) (by decide) (by kernel_rfl) (fun K hK => ?_)
            simp only [Mix.pick]
            repeat (go_big_quiet_step (fail))
            refine wpQuiet_nil (hK _ ?_)
            clear hK K
            refine Mix.done (by kernel_rfl) ?_
            first | go_meet | (go_wp2; go_meet)
            exact ⟨rfl, HBW.out _ hw'⟩
          · simp only [Mix.pick]
            go_wp2
            refine ⟨rfl, hK _ _ ?_⟩
            clear hK K
            refine Mix.take [false, false, false, false, false, false, false, false, false, false, false, false, true] 4 (by kernel_rfl) (by kernel_rfl) (by decide) (by kernel_rfl) (fun K hK => ?_)
            simp only [Mix.pick]
            repeat (go_big_quiet_step (fail))
            refine wpQuiet_nil (hK _ ?_)
            clear hK K
            refine Mix.pair [false, false, false, false, false, false, true] [false, false, false, false, false, false, false, false, false, false, false, false, false, true] 3 6 13 _ _ rfl rfl rfl rfl (by kernel_rfl) (by kernel_rfl) (fun K hK => ?_) (fun K hK => ?_)
            · simp only [Mix.pick]
              go_wp2
              refine ⟨rfl, hK _ _ ?_⟩
              clear hK K
              refine Mix.one [false, false, false, false, false, false, false, false, false, false, false, false, false, true] 2 13 _ rfl rfl (by kernel_rfl) (by kernel_rfl) (fun K hK => ?_)
              simp only [Mix.pick]
              go_wp2
              refine ⟨rfl, hK _ _ ?_⟩
              clear hK K
              refine Mix.one [false, false, false, false, false, false, false, false, false, false, false, false, false, false, true] 1 14 _ rfl rfl (by kernel_rfl) (by kernel_rfl) (fun K hK => ?_)
              simp only [Mix.pick]
              go_wp2_with fail
              refine Calls.mono HS2.out ?_
              rintro e w' ⟨rfl, hw'⟩
              go_wp2
              refine ⟨rfl, hK _ _ ?_⟩
              clear hK K
              refine Mix.take [false, false, false, false, false, false, false, false, false, false, false, false, false, false, false, true] 0 (by kernel_rfl) (by kernel_rfl) (by decide) (by kernel_rfl) (fun K hK => ?_)
              simp only [Mix.pick]
              repeat (go_big_quiet_step (fail))
              refine wpQuiet_nil (hK _ ?_)
              clear hK K
              refine Mix.done (by kernel_rfl) ?_
              first | go_meet | (go_wp2; go_meet)
              exact ⟨rfl, HBW.out _ hw'⟩
            · simp only [Mix.pick]
              go_wp2
              refine ⟨rfl, hK _ _ ?_⟩
              clear hK K
              refine Mix.one [false, false, false, false, false, false, true] 2 6 _ rfl rfl (by kernel_rfl) (by kernel_rfl) (fun K hK => ?_)
              simp only [Mix.pick]
              go_wp2
              refine ⟨rfl, hK _ _ ?_⟩
              clear hK K
              refine Mix.one [false, false, false, false, false, false, false, false, false, false, false, false, false, false, true] 1 14 _ rfl rfl (by kernel_rfl) (by kernel_rfl) (fun K hK => ?_)
              simp only [Mix.pick]
              go_wp2_with fail
              refine Calls.mono HS2.out ?_
              rintro e w' ⟨rfl, hw'⟩
              go_wp2
              refine ⟨rfl, hK _ _ ?_⟩
              clear hK K
              refine Mix.take [false, false, false, false, false, false, false, false, false, false, false, false, false, false, false, true] 0 (by kernel_rfl) (by kernel_rfl) (by decide) (by kernel_rfl) (fun K hK => ?_)
              simp only [Mix.pick]
              repeat (go_big_quiet_step (fail))
              refine wpQuiet_nil (hK _ ?_)
              clear hK K
              refine Mix.done (by kernel_rfl) ?_
              first | go_meet | (go_wp2; go_meet)
              exact ⟨rfl, HBW.out _ hw'⟩
        · simp only [Mix.pick]
          go_wp2
          refine ⟨rfl, hK _ _ ?_⟩
          clear hK K
          refine Mix.take [false, false, false, false, false, false, false, false, false, false, false, false, true] 6 (by kernel_rfl) (by kernel_rfl) (by decide) (by kernel_rfl) (fun K hK => ?_)
          simp only [Mix.pick]
          repeat (go_big_quiet_step (fail))
          refine wpQuiet_nil (hK _ ?_)
          clear hK K
          refine Mix.pair [false, false, false, true] [false, false, false, false, false, false, false, false, false, false, false, false, false, true] 5 3 13 _ _ rfl rfl rfl rfl (by kernel_rfl) (by kernel_rfl) (fun K hK => ?_) (fun K hK => ?_)
          · simp only [Mix.pick]
            go_wp2
            refine ⟨rfl, hK _ _ ?_⟩
            clear hK K
            refine Mix.take [false, false, false, false, false, true] 4 (by kernel_rfl) (by kernel_rfl) (by decide) (by kernel_rfl) (fun K hK => ?_)
            simp only [Mix.pick]
            repeat (go_big_quiet_step (fail))
            refine wpQuiet_nil (hK _ ?_)
            clear hK K
            refine Mix.pair [false, false, false, false, false, false, true] [false, false, false, false, false, false, false, false, false, false, false, false, false, true] 3 6 13 _ _ rfl rfl rfl rfl (by kernel_rfl) (by kernel_rfl) (fun K hK => ?_) (fun K hK => ?_)
            · simp only [Mix.pick]
              go_wp2
              refine ⟨rfl, hK _ _ ?_⟩
              clear hK K
              refine Mix.one [false, false, false, false, false, false, false, false, false, false, false, false, false, true] 2 13 _ rfl rfl (by kernel_rfl) (by kernel_rfl) (fun K hK => ?_)
              simp only [Mix.pick]
              go_wp2
              refine ⟨rfl, hK _ _ ?_⟩
              clear hK K
              refine Mix.one [false, false, false, false, false, false, false, false, false, false, false, false, false, false, true] 1 14 _ rfl rfl (by kernel_rfl) (by kernel_rfl) (fun K hK => ?_)
              simp only [Mix.pick]
              go_wp2_with fail
              refine Calls.mono HS2.out ?_
              rintro e w' ⟨rfl, hw'⟩
              go_wp2
              refine ⟨rfl, hK _ _ ?_⟩
              clear hK K
              refine Mix.take [false, false, false, false, false, false, false, false, false, false, false, false, false, false, false, true] 0 (by kernel_rfl) (by kernel_rfl) (by decide) (by kernel_rfl) (fun K hK => ?_)
              simp only [Mix.pick]
              repeat (go_big_quiet_step (fail))
              refine wpQuiet_nil (hK _ ?_)
              clear hK K
              refine Mix.done (by kernel_rfl) ?_
              first | go_meet | (go_wp2; go_meet)
              exact ⟨rfl, HBW.out _ hw'⟩
            · simp only [Mix.pick]
              go_wp2
              refine ⟨rfl, hK _ _ ?_⟩
              clear hK K
              refine Mix.one [false, false, false, false, false, false, true] 2 6 _ rfl rfl (by kernel_rfl) (by kernel_rfl) (fun K hK => ?_)
              simp only [Mix.pick]
              go_wp2
              refine ⟨rfl, hK _ _ ?_⟩
              clear hK K
              refine Mix.one [false, false, false, false, false, false, false, false, false, false, false, false, false, false, true] 1 14 _ rfl rfl (by kernel_rfl) (by kernel_rfl) (fun K hK => ?_)
              simp only [Mix.pick]
              go_wp2_with fail
              refine Calls.mono HS2.out ?_
              rintro e w' ⟨rfl, hw'⟩
              go_wp2
              refine ⟨rfl, hK _ _ ?_⟩
              clear hK K
              refine Mix.take [false, false, false, false, false, false, false, false, false, false, false, false, false, false, false, true] 0 (by kernel_rfl) (by kernel_rfl) (by decide) (by kernel_rfl) (fun K hK => ?_)
              simp only [Mix.pick]
              repeat (go_big_quiet_step (fail))
              refine wpQuiet_nil (hK _ ?_)
              clear hK K
              refine Mix.done (by kernel_rfl) ?_
              first | go_meet | (go_wp2; go_meet)
              exact ⟨rfl, HBW.out _ hw'⟩
          · simp only [Mix.pick]
            go_wp2
            refine ⟨rfl, hK _ _ ?_⟩
            clear hK K
            refine Mix.one [false, false, false, true] 4 3 _ rfl rfl (by kernel_rfl) (by kernel_rfl) (fun K hK => ?_)
            simp only [Mix.pick]
            go_wp2
            refine ⟨rfl, hK _ _ ?_⟩
            clear hK K
            refine Mix.take [false, false, false, false, false, true] 3 (by kernel_rfl) (by kernel_rfl) (by decide) (by kernel_rfl) (fun K hK => ?_)
            simp only [Mix.pick]
            repeat (go_big_quiet_step (fail))
            refine wpQuiet_nil (hK _ ?_)
            clear hK K
            refine Mix.one [false, false, false, false, false, false, true] 2 6 _ rfl rfl (by kernel_rfl) (by kernel_rfl) (fun K hK => ?_)
            simp only [Mix.pick]
            go_wp2
            refine ⟨rfl, hK _ _ ?_⟩
            clear hK K
            refine Mix.one [false, false, false, false, false, false, false, false, false, false, false, false, false, false, true] 1 14 _ rfl rfl (by kernel_rfl) (by kernel_rfl) (fun K hK => ?_)
            simp only [Mix.pick]
            go_wp2_with fail
            refine Calls.mono HS2.out ?_
            rintro e w' ⟨rfl, hw'⟩
            go_wp2
            refine ⟨rfl, hK _ _ ?_⟩
            clear hK K
            refine Mix.take [false, false, false, false, false, false, false, false, false, false, false, false, false, false, false, true] 0 (by kernel_rfl) (by kernel_rfl) (by decide) (by kernel_rfl) (fun K hK => ?_)
            simp only [Mix.pick]
            repeat (go_big_quiet_step (fail))
            refine wpQuiet_nil (hK _ ?_)
            clear hK K
            refine Mix.done (by kernel_rfl) ?_
            first | go_meet | (go_wp2; go_meet)
            exact ⟨rfl, HBW.out _ hw'⟩
      case rest =>
      obtain ⟨rfl, hbc⟩ := hcut
      clear z1 z2 y1 y2 HS2 HBW x2
      go_wp2
      go_roundw
      case rel => exact ⟨i + 1, by omega, by go_num, hbc⟩
      case measure => simp [intOf]; omega
    · go_wp2
      go_ret
      exact ⟨rfl, hbel⟩
end Go.Proofs.Ytcgfdhmegagjdaa.Ls
