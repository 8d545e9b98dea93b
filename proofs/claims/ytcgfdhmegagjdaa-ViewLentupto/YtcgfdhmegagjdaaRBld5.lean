/-
  The document's own builder: Patch.
-/
import Derived.Test.YtcgfdhmegagjdaaRBld4
namespace Go.Proofs.Ytcgfdhmegagjdaa
open Go.RowKit

theorem RBl.stored {w : World} {B g len c' mx : Nat} {l : List Nat} (h : RBl w B (.slice (some ⟨g, 0, none⟩) len c') mx l) (hl : l.length = len) (j y : Nat) :
    RBl (w.setCell ⟨g, j, none⟩ (.int .u8 (y : Int))) B (.slice (some ⟨g, 0, none⟩) len c') mx (l.set j y) := by
  have hne : B ≠ g := fun e => h.ne (by rw [e]; rfl)
  have hch : Ch (fun k => k = g) w (w.setCell ⟨g, j, none⟩ (.int .u8 (y : Int))) := (Ch.refl _ w).set _ _ rfl
  have ho := h.own
  rw [hl] at ho
  have h1 := (ho.stored j (.int .u8 (y : Int))).1
  rw [set_u8] at h1
  exact ⟨hch.cell h.c0 hne, hch.cell h.c1 hne, fun j => (hch.frozen (p := ⟨B, j, none⟩) h.lt hne).trans (h.fz j), Nat.lt_of_lt_of_le h.lt hch.size, by rw [List.length_set, hl]; exact h1, h.ne⟩

set_option maxRecDepth 100000 in
set_option maxHeartbeats 800000 in
theorem patchR_total (B : Nat) (v : Value) (mx : Nat) (l : List Nat) (at' n : Int) (x : Nat) (w : World) (h : RBl w B v mx l) (hl : l.length ≤ 65535) (ha : at' ≤ 9223372036854775807) (hx : x < 18446744073709551616) :
    Calls Try.prog 44 #[.pointer (some ⟨B, 0, none⟩), .int .i64 at', .int .i64 n, .int .u64 x] w fun e w' => e = .returned (.int .i64 (tE at' n x l.length)) ∧ After RBl w B v mx (tL at' n x l) w' := by
  by_cases h1 : n < 1 ∨ 8 < n
  · have e : tE at' n x l.length = 1 := if_pos h1
    rw [tL, e, if_neg (by decide)]
    have HH : Hid (n < 1 ∨ 8 < n) := h1
    clear h1
    go_enter Try.func44, Try.ntmps44
    go_wp2_with fail
    refine (refBytes_arg n x _ HH.out).mono ?_
    rintro e w1 ⟨rfl, rfl⟩
    go_wp2
    go_ret
    exact ⟨rfl, .same h (Below.refl _ _)⟩
  · obtain ⟨m, rfl⟩ : ∃ m : Nat, n = (m : Int) := ⟨n.toNat, by omega⟩
    have hm1 : 1 ≤ m := by omega
    have hm8 : m ≤ 8 := by omega
    obtain ⟨er, her⟩ : ∃ er, er = tE at' m x l.length := ⟨_, rfl⟩
    obtain ⟨l2, hl2⟩ : ∃ l2, l2 = tL at' m x l := ⟨_, rfl⟩
    rw [← her, ← hl2]
    have HE : Hid (er = tE at' m x l.length) := her
    have HL : Hid (l2 = tL at' m x l) := hl2
    have HX : Hid (x < 18446744073709551616) := hx
    have HN : Hid (¬ ((m : Int) < 1 ∨ 8 < (m : Int))) := h1
    clear her hl2 hx h1
    go_enter Try.func44, Try.ntmps44
    go_wp2_with fail
    refine (refBytes_any m x _ (by omega) (by omega) HX.out).mono ?_
    rintro e w1 ⟨hb1, ⟨hbig, rfl⟩ | ⟨hsm, ⟨gl, c, hg, rfl, hsg⟩⟩⟩
    · have e1 : tE at' m x l.length = 12 := by unfold tE; rw [if_neg HN.out, if_pos (by simpa using hbig)]
      have e2 : er = 12 := by rw [HE.out, e1]
      have e3 : l2 = l := by rw [HL.out, tL, e1, if_neg (by decide)]
      subst e2 e3
      clear hbig e1
      go_wp2
      go_ret
      exact ⟨rfl, .same (h.below hb1) hb1⟩
    · have h' := h.below hb1
      have HSM : Hid (x < 256 ^ m) := hsm
      have d1 := h'.c1
      obtain ⟨a, cc, hv⟩ := owns_shape h.own
      rw [hv] at d1
      clear hsm
      go_wp2_with fail
      refine (there_any a l.length cc at' m w1 (by omega) ha (by omega)).mono ?_
      rintro e w2 ⟨rfl, rfl⟩
      by_cases h3 : 0 ≤ at' ∧ at' + m ≤ l.length
      · have e1 : tE at' m x l.length = 0 := by rw [tE_fit at' m x l.length HN.out HSM.out, if_neg (by omega)]
        have e2 : er = 0 := by rw [HE.out, e1]
        have e3 : l2 = spl l at'.toNat (byN m x) := by rw [HL.out, tL, e1, if_pos rfl, Int.toNat_natCast]
        obtain ⟨p, rfl⟩ : ∃ p : Nat, at' = (p : Int) := ⟨at'.toNat, by omega⟩
        rw [Int.toNat_natCast] at e3
        have hpm : p + m ≤ l.length := by omega
        obtain ⟨g, c', hv2, _, _⟩ := own_block h.own (by omega)
        subst hv2
        simp only [Value.slice.injEq, true_and] at hv
        obtain ⟨rfl, rfl⟩ := hv
        have hglt : g < w.heap.size := (h.own.lt g rfl).2
        have hne : B ≠ g := fun e => h.ne (by rw [e]; rfl)
        have HS3 : Hid (l2 = spl l p (byN m x)) := e3
        obtain ⟨len, hlen⟩ : ∃ len, len = l.length := ⟨_, rfl⟩
        have HLEN : Hid (len = l.length) := hlen
        rw [← hlen] at h' h hpm d1 hl
        clear hlen e1 e3 HE HL
        subst e2
        rw [decide_eq_true h3]
        clear h3
        go_wp2
        go_loopw [12] (fun ix wr => ∃ i : Nat, i ≤ m ∧ ix = .int .i64 i ∧ RBl wr B (.slice (some ⟨g, 0, none⟩) len c') mx (spl l p ((byN m x).take i)) ∧ Ch (fun k => k = g) w1 wr) (fun ix _ => m - (intOf ix).toNat)
        case atStart => exact ⟨0, Nat.zero_le _, rfl, by simpa [spl] using h', Ch.refl _ _⟩
        case round =>
          obtain ⟨i, hi, rfl, hR, hch⟩ := hrel
          by_cases hlt : i < m
          · have hd : wr.cell? ⟨gl, 8 - m + i, none⟩ = some (.int .u8 (((byN m x).getD i 0 : Nat) : Int)) := by
              rcases hch.seg hsg (fun y _ hy e => by simp at hy; subst hy; simp at e; omega) with e | ⟨b, off, e, hcc⟩
              · have := congrArg List.length e; simp [toI, byN_len] at this; omega
              · simp only [Option.some.injEq, Addr.mk.injEq, and_true] at e
                obtain ⟨rfl, rfl⟩ := e
                have := hcc i (by rw [toI_len, byN_len]; exact hlt)
                rw [this, toI_getD]
            have r1 := hR.c1
            have hll : (spl l p ((byN m x).take i)).length = len := by rw [spl_len _ _ _ (by simp [byN_len]; have := HLEN.out; omega)]; exact HLEN.out.symm
            have hor := hR.own
            rw [hll] at hor
            have hcg : ∃ z, wr.cell? ⟨g, p + i, none⟩ = some z := by
              have := hor.cellAt (p + i) (by omega)
              rw [List.getElem?_eq_getElem (by simp [toI, hll]; omega)] at this
              exact ⟨_, this⟩
            obtain ⟨z, hz⟩ := hcg
            have hfz := hor.frozenAt (p + i)
            obtain ⟨y, hy⟩ : ∃ y, y = (byN m x).getD i 0 := ⟨_, rfl⟩
            rw [← hy] at hd
            have HAA : Hid (RBl (wr.setCell ⟨g, p + i, none⟩ (.int .u8 (y : Int))) B (.slice (some ⟨g, 0, none⟩) len c') mx (spl l p ((byN m x).take (i + 1)))) := by
              have := hR.stored hll (p + i) y
              rw [hy, spl_up l p (byN m x) i (by rw [byN_len]; exact hlt) (by rw [byN_len]; have := HLEN.out; omega), ← hy] at this
              exact this
            have HA : Hid (RBl (wr.drew.setCell ⟨g, p + i, none⟩ (.int .u8 (y : Int))) B (.slice (some ⟨g, 0, none⟩) len c') mx (spl l p ((byN m x).take (i + 1)))) := (HAA.out).ch (S := fun _ => False) ⟨rfl, rfl, rfl, Nat.le_refl _, fun _ _ _ => rfl⟩ (fun _ _ => id)
            have hch2 : Ch (fun k => k = g) w1 (wr.drew.setCell ⟨g, p + i, none⟩ (.int .u8 (y : Int))) := (hch.drew).set _ _ rfl
            have i0 : (0 : Int) ≤ (i : Int) := by omega
            have i1 : (i : Int) < (m : Int) := by omega
            have i2 : ((i : Int)).toNat = i := by omega
            have p0 : (0 : Int) ≤ (p : Int) + (i : Int) := by omega
            have p1 : (p : Int) + (i : Int) < (len : Int) := by omega
            have p2 : ((p : Int) + (i : Int)).toNat = p + i := by omega
            have p3 : IntKind.i64.wrap ((p : Int) + (i : Int)) = (p : Int) + (i : Int) := by simp [IntKind.wrap, IntKind.bits, IntKind.signed]; omega
            clear hy hor hll HAA hR hch
            go_upto_region 10 with fail
            refine Mix.start (by kernel_rfl) ?_
            refine Mix.take [true, false, false, false, true, true, true, true, true, true] 6 (by kernel_rfl) (by kernel_rfl) (by decide) (by kernel_rfl) (fun K hK => ?_)
            simp only [Mix.pick]
            repeat (go_big_quiet_step (fail))
            refine wpQuiet_nil (hK _ ?_)
            clear hK K
            refine Mix.pair [false, true] [false, false, false, false, false, false, false, false, false, false, true] 5 1 10 _ _ rfl rfl rfl rfl (by kernel_rfl) (by kernel_rfl) (fun K hK => ?_) (fun K hK => ?_)
            · simp only [Mix.pick]
              go_wp2
              refine ⟨rfl, hK _ _ ?_⟩
              clear hK K
              refine Mix.take [false, false, true] 4 (by kernel_rfl) (by kernel_rfl) (by decide) (by kernel_rfl) (fun K hK => ?_)
              simp only [Mix.pick]
              repeat (go_big_quiet_step (fail))
              refine wpQuiet_nil (hK _ ?_)
              clear hK K
              refine Mix.pair [false, false, false, true] [false, false, false, false, false, false, false, false, false, false, true] 3 3 10 _ _ rfl rfl rfl rfl (by kernel_rfl) (by kernel_rfl) (fun K hK => ?_) (fun K hK => ?_)
              · simp only [Mix.pick]
                go_wp2
                refine ⟨rfl, hK _ _ ?_⟩
                clear hK K
                refine Mix.one [false, false, false, false, false, false, false, false, false, false, true] 2 10 _ rfl rfl (by kernel_rfl) (by kernel_rfl) (fun K hK => ?_)
                simp only [Mix.pick]
                go_wp2
                refine ⟨rfl, hK _ _ ?_⟩
                clear hK K
                refine Mix.take [false, false, false, false, false, false, false, false, false, false, false, true] 1 (by kernel_rfl) (by kernel_rfl) (by decide) (by kernel_rfl) (fun K hK => ?_)
                simp only [Mix.pick]
                repeat (go_big_quiet_step (fail))
                refine wpQuiet_nil (hK _ ?_)
                clear hK K
                refine Mix.one [false, false, false, false, false, false, false, false, false, false, false, false, true] 0 12 _ rfl rfl (by kernel_rfl) (by kernel_rfl) (fun K hK => ?_)
                simp only [Mix.pick]
                go_wp2
                refine ⟨rfl, hK _ _ ?_⟩
                clear hK K
                refine Mix.done (by kernel_rfl) ?_
                go_wp2
                go_roundw
                case rel => exact ⟨i + 1, by omega, by go_num, HA.out, hch2⟩
                case measure => simp [intOf]; omega
              · simp only [Mix.pick]
                go_wp2
                refine ⟨rfl, hK _ _ ?_⟩
                clear hK K
                refine Mix.one [false, false, false, true] 2 3 _ rfl rfl (by kernel_rfl) (by kernel_rfl) (fun K hK => ?_)
                simp only [Mix.pick]
                go_wp2
                refine ⟨rfl, hK _ _ ?_⟩
                clear hK K
                refine Mix.take [false, false, false, false, false, false, false, false, false, false, false, true] 1 (by kernel_rfl) (by kernel_rfl) (by decide) (by kernel_rfl) (fun K hK => ?_)
                simp only [Mix.pick]
                repeat (go_big_quiet_step (fail))
                refine wpQuiet_nil (hK _ ?_)
                clear hK K
                refine Mix.one [false, false, false, false, false, false, false, false, false, false, false, false, true] 0 12 _ rfl rfl (by kernel_rfl) (by kernel_rfl) (fun K hK => ?_)
                simp only [Mix.pick]
                go_wp2
                refine ⟨rfl, hK _ _ ?_⟩
                clear hK K
                refine Mix.done (by kernel_rfl) ?_
                go_wp2
                go_roundw
                case rel => exact ⟨i + 1, by omega, by go_num, HA.out, hch2⟩
                case measure => simp [intOf]; omega
            · simp only [Mix.pick]
              go_wp2
              refine ⟨rfl, hK _ _ ?_⟩
              clear hK K
              refine Mix.one [false, true] 4 1 _ rfl rfl (by kernel_rfl) (by kernel_rfl) (fun K hK => ?_)
              simp only [Mix.pick]
              go_wp2
              refine ⟨rfl, hK _ _ ?_⟩
              clear hK K
              refine Mix.take [false, false, true] 3 (by kernel_rfl) (by kernel_rfl) (by decide) (by kernel_rfl) (fun K hK => ?_)
              simp only [Mix.pick]
              repeat (go_big_quiet_step (fail))
              refine wpQuiet_nil (hK _ ?_)
              clear hK K
              refine Mix.one [false, false, false, true] 2 3 _ rfl rfl (by kernel_rfl) (by kernel_rfl) (fun K hK => ?_)
              simp only [Mix.pick]
              go_wp2
              refine ⟨rfl, hK _ _ ?_⟩
              clear hK K
              refine Mix.take [false, false, false, false, false, false, false, false, false, false, false, true] 1 (by kernel_rfl) (by kernel_rfl) (by decide) (by kernel_rfl) (fun K hK => ?_)
              simp only [Mix.pick]
              repeat (go_big_quiet_step (fail))
              refine wpQuiet_nil (hK _ ?_)
              clear hK K
              refine Mix.one [false, false, false, false, false, false, false, false, false, false, false, false, true] 0 12 _ rfl rfl (by kernel_rfl) (by kernel_rfl) (fun K hK => ?_)
              simp only [Mix.pick]
              go_wp2
              refine ⟨rfl, hK _ _ ?_⟩
              clear hK K
              refine Mix.done (by kernel_rfl) ?_
              go_wp2
              go_roundw
              case rel => exact ⟨i + 1, by omega, by go_num, HA.out, hch2⟩
              case measure => simp [intOf]; omega
          · obtain rfl : i = m := by omega
            rw [List.take_of_length_le (by rw [byN_len]; exact Nat.le_refl _)] at hR
            go_wp2
            go_ret
            refine ⟨rfl, _, ?_, fun _ hq => .inl hq, (Ch.ofBelow hb1).trans hch (fun y _ hy => .inr (by rw [hy]; rfl))⟩
            rw [HS3.out, ← HLEN.out]
            exact hR
      · have e1 : tE at' m x l.length = 10 := by rw [tE_fit at' m x l.length HN.out HSM.out, if_pos (by omega)]
        have e2 : er = 10 := by rw [HE.out, e1]
        have e3 : l2 = l := by rw [HL.out, tL, e1, if_neg (by decide)]
        subst e2 e3
        rw [decide_eq_false h3]
        clear h3 e1
        go_wp2
        go_ret
        exact ⟨rfl, .same (h.below hb1) hb1⟩
end Go.Proofs.Ytcgfdhmegagjdaa
