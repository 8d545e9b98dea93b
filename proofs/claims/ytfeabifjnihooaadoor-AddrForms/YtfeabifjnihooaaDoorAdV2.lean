/-
  weirlaw4.AddrForms' harness: three, dots, written.
-/
import Derived.Test.YtfeabifjnihooaaDoorAdV1
import Derived.Test.YtfeabifjnihooaaDoorAdSta
import Derived.Test.YtfeabifjnihooaaDoorAdG5
namespace Go.Proofs.YtfeabifjnihooaaDoor
open Go.RowKit Go.Maps

theorem conv_tx (w : World) (a : Option Addr) (cap : Nat) (l : List Nat) (hs : Seg .u8 w a (toI l)) (h256 : ∀ x ∈ l, x < 256) (n : Nat) (hn : n = l.length) :
    (convert 55 9 (.slice a n cap)).run Tryd.prog w = .ok (.string (txB l)) w := by
  subst hn
  exact conv_any w a cap l hs h256
/-- a short slice of bytes, just laid -/
theorem conv_new (w : World) (l : List Nat) (h256 : ∀ x ∈ l, x < 256) (n : Nat) (hn : n = l.length) :
    (convert 55 9 (.slice (some ⟨w.heap.size, 0, none⟩) n n)).run Tryd.prog (w.alloc (.cells (l.map fun c => Value.int .u8 (c : Nat)).toArray 5)) = .ok (.string (txB l)) (w.alloc (.cells (l.map fun c => Value.int .u8 (c : Nat)).toArray 5)) := by
  refine conv_tx _ _ _ l ?_ h256 n hn
  refine .inr ⟨w.heap.size, 0, rfl, fun i hi => ?_⟩
  rw [toI_len] at hi
  rw [toI_getD]
  rw [World.cell?_alloc_mark]
  simp [hi]
set_option maxHeartbeats 1600000 in
set_option maxRecDepth 100000 in
theorem three_any (c : Nat) (w : World) (hc : c < 256) : Calls Tryd.prog 22 #[.int .u8 (c : Nat)] w fun r w' => r = .returned (.string (txB (dec3 c))) ∧ Below w.heap.size w w' := by

  by_cases h1 : 99 < c
  · have q99 : decide ((c : Int) > 99) = true := decide_eq_true (by omega)
    have r99 : decide (99 < c) = true := decide_eq_true (by omega)
    have s99 : (99 : Int) < (c : Int) := by omega
    have kc : (convert 55 9 (.slice (some ⟨w.heap.size, 0, none⟩) 3 3)).run Tryd.prog (w.alloc (.cells #[.int .u8 (48 + (c : Int) / 100), .int .u8 (48 + (c : Int) / 10 % 10), .int .u8 (48 + (c : Int) % 10)] 5)) = .ok (.string (txB (dec3 c))) (w.alloc (.cells #[.int .u8 (48 + (c : Int) / 100), .int .u8 (48 + (c : Int) / 10 % 10), .int .u8 (48 + (c : Int) % 10)] 5)) := by
      have e : dec3 c = [48 + c / 100, 48 + c / 10 % 10, 48 + c % 10] := by unfold dec3; rw [if_neg (by omega), if_neg (by omega)]
      have h := conv_new w (dec3 c) (fun d hd => dgB_ltV (dec3_dg hc d hd)) 3 (by rw [e]; rfl)
      rw [e] at h
      rw [e]
      exact h
    go_enter Tryd.func22, Tryd.ntmps22
    go_wp2
    go_ret
    exact ⟨rfl, (Below.refl _ _).alloc (Nat.le_refl _) _⟩
  · by_cases h2 : 9 < c
    · have q99 : decide ((c : Int) > 99) = false := decide_eq_false (by omega)
      have r99 : decide (99 < c) = false := decide_eq_false (by omega)
      have s99 : ¬ (99 : Int) < (c : Int) := by omega
      have q9 : decide ((c : Int) > 9) = true := decide_eq_true (by omega)
      have r9 : decide (9 < c) = true := decide_eq_true (by omega)
      have s9 : (9 : Int) < (c : Int) := by omega
      have kc : (convert 55 9 (.slice (some ⟨w.heap.size, 0, none⟩) 2 2)).run Tryd.prog (w.alloc (.cells #[.int .u8 (48 + (c : Int) / 10), .int .u8 (48 + (c : Int) % 10)] 5)) = .ok (.string (txB (dec3 c))) (w.alloc (.cells #[.int .u8 (48 + (c : Int) / 10), .int .u8 (48 + (c : Int) % 10)] 5)) := by
        have e : dec3 c = [48 + c / 10, 48 + c % 10] := by unfold dec3; rw [if_neg (by omega), if_pos (by omega)]
        have h := conv_new w (dec3 c) (fun d hd => dgB_ltV (dec3_dg hc d hd)) 2 (by rw [e]; rfl)
        rw [e] at h
        rw [e]
        exact h
      go_enter Tryd.func22, Tryd.ntmps22
      go_wp2
      go_ret
      exact ⟨rfl, (Below.refl _ _).alloc (Nat.le_refl _) _⟩
    · have q99 : decide ((c : Int) > 99) = false := decide_eq_false (by omega)
      have r99 : decide (99 < c) = false := decide_eq_false (by omega)
      have s99 : ¬ (99 : Int) < (c : Int) := by omega
      have q9 : decide ((c : Int) > 9) = false := decide_eq_false (by omega)
      have r9 : decide (9 < c) = false := decide_eq_false (by omega)
      have s9 : ¬ (9 : Int) < (c : Int) := by omega
      have kc : (convert 55 9 (.slice (some ⟨w.heap.size, 0, none⟩) 1 1)).run Tryd.prog (w.alloc (.cells #[.int .u8 (48 + (c : Int))] 5)) = .ok (.string (txB (dec3 c))) (w.alloc (.cells #[.int .u8 (48 + (c : Int))] 5)) := by
        have e : dec3 c = [48 + c] := by unfold dec3; rw [if_pos (by omega)]
        have h := conv_new w (dec3 c) (fun d hd => dgB_ltV (dec3_dg hc d hd)) 1 (by rw [e]; rfl)
        rw [e] at h
        rw [e]
        exact h
      go_enter Tryd.func22, Tryd.ntmps22
      go_wp2
      go_ret
      exact ⟨rfl, (Below.refl _ _).alloc (Nat.le_refl _) _⟩
set_option maxHeartbeats 1600000 in
set_option maxRecDepth 100000 in
theorem dots_any (x : Nat → Nat) (w : World) (hx : ∀ i, i < 16 → x i < 256) : Calls Tryd.prog 9 #[.agg (arCells x), .int .i64 12] w fun r w' => r = .returned (.string (txB (dots (x 12) (x 13) (x 14) (x 15)))) ∧ Below w.heap.size w w' := by
  have HX : Hid (∀ i, i < 16 → x i < 256) := hx
  clear hx
  have hb := ar_new w x
  have bel : Below w.heap.size w (w.alloc (.cells (arCells x) 22)) := (Below.refl _ _).alloc (Nat.le_refl _) _
  obtain ⟨CX, hC⟩ : ∃ C, C = arCells x := ⟨_, rfl⟩
  obtain ⟨W, hW⟩ : ∃ W_, W_ = w.alloc (.cells (arCells x) 22) := ⟨_, rfl⟩
  rw [← hW] at hb bel
  obtain ⟨B, hB⟩ : ∃ B, B = w.heap.size := ⟨_, rfl⟩
  rw [← hB] at hb
  have HBX : Hid (AryAt W B x) := hb
  rw [← hC] at hW ⊢
  have HOX : Hid (w.heap.size = B) := hB.symm
  have HLX : Hid (Below w.heap.size w W) := bel
  have HWX : Hid (w.alloc (.cells CX 22) = W) := hW.symm
  clear hb hW hB hC bel
  go_enter Tryd.func9, Tryd.ntmps9
  go_upto_region 1 with fail
  rw [HOX.out, HWX.out]
  refine MixH.start (fun A => AryAt A B x ∧ Below w.heap.size w A) (by kernel_rfl) ?_
  obtain ⟨wA, hwA⟩ : ∃ W_, W_ = W.drew := ⟨_, rfl⟩
  have bdr : Below W.heap.size W wA := by rw [hwA]; exact (Below.refl _ _).drew
  have hS : AryAt wA B x ∧ Below w.heap.size w wA := ⟨HBX.out.below bdr, HLX.out.trans (bdr.mono HLX.out.size)⟩
  rw [← hwA]
  clear hwA bdr
  refine MixH.takes [true, true, false, false, false, true, true, true, false, false, false, false, true, true, true, false, false, false, false, true, true, true] 15 (by kernel_rfl) (by kernel_rfl) (by decide) (by kernel_rfl) hS (fun K hK => ?_)
  simp only [Mix.pick]
  repeat (go_big_quiet_step (fail))
  refine wpQuiet_nil (hK _ ?_)
  clear hK K
  refine MixH.take 14 2 _ (.int .u8 (x 12 : Nat)) rfl (by kernel_rfl) (by kernel_rfl) (by kernel_rfl) (by kernel_rfl) (yields_by4 (.tmp 6) rfl ⟨B, 12, none⟩ (.int .u8 (x 12 : Nat)) rfl rfl (fun A hA => hA.1.byte 12 (by decide))) hS (fun a' ha => ?_)
  simp only [Act.put, List.setIfInBounds_toArray, List.set_cons_succ, List.set_cons_zero] at ha
  subst ha
  refine MixH.take 13 8 _ (.int .u8 (x 13 : Nat)) rfl (by kernel_rfl) (by kernel_rfl) (by kernel_rfl) (by kernel_rfl) (yields_by4 (.tmp 12) rfl ⟨B, 13, none⟩ (.int .u8 (x 13 : Nat)) rfl rfl (fun A hA => hA.1.byte 13 (by decide))) hS (fun a' ha => ?_)
  simp only [Act.put, List.setIfInBounds_toArray, List.set_cons_succ, List.set_cons_zero] at ha
  subst ha
  refine MixH.take 12 15 _ (.int .u8 (x 14 : Nat)) rfl (by kernel_rfl) (by kernel_rfl) (by kernel_rfl) (by kernel_rfl) (yields_by4 (.tmp 19) rfl ⟨B, 14, none⟩ (.int .u8 (x 14 : Nat)) rfl rfl (fun A hA => hA.1.byte 14 (by decide))) hS (fun a' ha => ?_)
  simp only [Act.put, List.setIfInBounds_toArray, List.set_cons_succ, List.set_cons_zero] at ha
  subst ha
  refine MixH.take 11 22 _ (.int .u8 (x 15 : Nat)) rfl (by kernel_rfl) (by kernel_rfl) (by kernel_rfl) (by kernel_rfl) (yields_by4 (.tmp 26) rfl ⟨B, 15, none⟩ (.int .u8 (x 15 : Nat)) rfl rfl (fun A hA => hA.1.byte 15 (by decide))) hS (fun a' ha => ?_)
  simp only [Act.put, List.setIfInBounds_toArray, List.set_cons_succ, List.set_cons_zero] at ha
  subst ha
  refine MixH.one [false, false, false, true] 10 3 _ rfl rfl (by kernel_rfl) (by kernel_rfl) (fun K hK => ?_)
  simp only [Mix.pick]
  go_wp2_with fail
  refine Calls.mono (three_any (x 12) wA (HX.out 12 (by decide))) ?_
  rintro e w1 ⟨rfl, hb⟩
  have hS : AryAt w1 B x ∧ Below w.heap.size w w1 := ⟨hS.1.below hb, hS.2.trans (hb.mono hS.2.size)⟩
  clear hb
  go_wp2_with fail
  refine ⟨rfl, hK _ _ hS ?_⟩
  clear hK K
  refine MixH.take 9 4 _ (.string (txB ((dec3 (x 12)) ++ ([46])))) rfl (by kernel_rfl) (by kernel_rfl) (by kernel_rfl) (by kernel_rfl) (yields_cat (.tmp 8) (.const (.string ⟨#[46]⟩)) rfl (dec3 (x 12)) ([46]) _ rfl rfl rfl rfl (by have h0 := dec3_hi (x 12); have h1 := dec3_hi (x 13); have h2 := dec3_hi (x 14); have h3 := dec3_hi (x 15); simp; omega)) hS (fun a' ha => ?_)
  simp only [Act.put, List.setIfInBounds_toArray, List.set_cons_succ, List.set_cons_zero] at ha
  subst ha
  refine MixH.one [false, false, false, false, false, false, false, false, false, true] 8 9 _ rfl rfl (by kernel_rfl) (by kernel_rfl) (fun K hK => ?_)
  simp only [Mix.pick]
  go_wp2_with fail
  refine Calls.mono (three_any (x 13) w1 (HX.out 13 (by decide))) ?_
  rintro e w2 ⟨rfl, hb⟩
  have hS : AryAt w2 B x ∧ Below w.heap.size w w2 := ⟨hS.1.below hb, hS.2.trans (hb.mono hS.2.size)⟩
  clear hb
  go_wp2_with fail
  refine ⟨rfl, hK _ _ hS ?_⟩
  clear hK K
  refine MixH.take 7 10 _ (.string (txB ((dec3 (x 12) ++ [46]) ++ (dec3 (x 13))))) rfl (by kernel_rfl) (by kernel_rfl) (by kernel_rfl) (by kernel_rfl) (yields_cat (.tmp 9) (.tmp 14) rfl (dec3 (x 12) ++ [46]) (dec3 (x 13)) _ rfl rfl rfl rfl (by have h0 := dec3_hi (x 12); have h1 := dec3_hi (x 13); have h2 := dec3_hi (x 14); have h3 := dec3_hi (x 15); simp; omega)) hS (fun a' ha => ?_)
  simp only [Act.put, List.setIfInBounds_toArray, List.set_cons_succ, List.set_cons_zero] at ha
  subst ha
  refine MixH.take 6 11 _ (.string (txB (((dec3 (x 12) ++ [46]) ++ dec3 (x 13)) ++ ([46])))) rfl (by kernel_rfl) (by kernel_rfl) (by kernel_rfl) (by kernel_rfl) (yields_cat (.tmp 15) (.const (.string ⟨#[46]⟩)) rfl ((dec3 (x 12) ++ [46]) ++ dec3 (x 13)) ([46]) _ rfl rfl rfl rfl (by have h0 := dec3_hi (x 12); have h1 := dec3_hi (x 13); have h2 := dec3_hi (x 14); have h3 := dec3_hi (x 15); simp; omega)) hS (fun a' ha => ?_)
  simp only [Act.put, List.setIfInBounds_toArray, List.set_cons_succ, List.set_cons_zero] at ha
  subst ha
  refine MixH.one [false, false, false, false, false, false, false, false, false, false, false, false, false, false, false, false, true] 5 16 _ rfl rfl (by kernel_rfl) (by kernel_rfl) (fun K hK => ?_)
  simp only [Mix.pick]
  go_wp2_with fail
  refine Calls.mono (three_any (x 14) w2 (HX.out 14 (by decide))) ?_
  rintro e w3 ⟨rfl, hb⟩
  have hS : AryAt w3 B x ∧ Below w.heap.size w w3 := ⟨hS.1.below hb, hS.2.trans (hb.mono hS.2.size)⟩
  clear hb
  go_wp2_with fail
  refine ⟨rfl, hK _ _ hS ?_⟩
  clear hK K
  refine MixH.take 4 17 _ (.string (txB ((dec3 (x 12) ++ 46 :: (dec3 (x 13) ++ [46])) ++ (dec3 (x 14))))) rfl (by kernel_rfl) (by kernel_rfl) (by kernel_rfl) (by kernel_rfl) (yields_cat (.tmp 16) (.tmp 21) rfl (dec3 (x 12) ++ 46 :: (dec3 (x 13) ++ [46])) (dec3 (x 14)) _ rfl rfl rfl rfl (by have h0 := dec3_hi (x 12); have h1 := dec3_hi (x 13); have h2 := dec3_hi (x 14); have h3 := dec3_hi (x 15); simp; omega)) hS (fun a' ha => ?_)
  simp only [Act.put, List.setIfInBounds_toArray, List.set_cons_succ, List.set_cons_zero] at ha
  subst ha
  refine MixH.take 3 18 _ (.string (txB (((dec3 (x 12) ++ 46 :: (dec3 (x 13) ++ [46])) ++ dec3 (x 14)) ++ ([46])))) rfl (by kernel_rfl) (by kernel_rfl) (by kernel_rfl) (by kernel_rfl) (yields_cat (.tmp 22) (.const (.string ⟨#[46]⟩)) rfl ((dec3 (x 12) ++ 46 :: (dec3 (x 13) ++ [46])) ++ dec3 (x 14)) ([46]) _ rfl rfl rfl rfl (by have h0 := dec3_hi (x 12); have h1 := dec3_hi (x 13); have h2 := dec3_hi (x 14); have h3 := dec3_hi (x 15); simp; omega)) hS (fun a' ha => ?_)
  simp only [Act.put, List.setIfInBounds_toArray, List.set_cons_succ, List.set_cons_zero] at ha
  subst ha
  refine MixH.one [false, false, false, false, false, false, false, false, false, false, false, false, false, false, false, false, false, false, false, false, false, false, false, true] 2 23 _ rfl rfl (by kernel_rfl) (by kernel_rfl) (fun K hK => ?_)
  simp only [Mix.pick]
  go_wp2_with fail
  refine Calls.mono (three_any (x 15) w3 (HX.out 15 (by decide))) ?_
  rintro e w4 ⟨rfl, hb⟩
  have hS : AryAt w4 B x ∧ Below w.heap.size w w4 := ⟨hS.1.below hb, hS.2.trans (hb.mono hS.2.size)⟩
  clear hb
  go_wp2_with fail
  refine ⟨rfl, hK _ _ hS ?_⟩
  clear hK K
  refine MixH.take 1 24 _ (.string (txB ((dec3 (x 12) ++ 46 :: (dec3 (x 13) ++ 46 :: (dec3 (x 14) ++ [46]))) ++ (dec3 (x 15))))) rfl (by kernel_rfl) (by kernel_rfl) (by kernel_rfl) (by kernel_rfl) (yields_cat (.tmp 23) (.tmp 28) rfl (dec3 (x 12) ++ 46 :: (dec3 (x 13) ++ 46 :: (dec3 (x 14) ++ [46]))) (dec3 (x 15)) _ rfl rfl rfl rfl (by have h0 := dec3_hi (x 12); have h1 := dec3_hi (x 13); have h2 := dec3_hi (x 14); have h3 := dec3_hi (x 15); simp; omega)) hS (fun a' ha => ?_)
  simp only [Act.put, List.setIfInBounds_toArray, List.set_cons_succ, List.set_cons_zero] at ha
  subst ha
  refine MixH.takes [false, false, false, false, false, false, false, false, false, false, false, false, false, false, false, false, false, false, false, false, false, false, false, false, false, true] 0 (by kernel_rfl) (by kernel_rfl) (by decide) (by kernel_rfl) hS (fun K hK => ?_)
  simp only [Mix.pick]
  repeat (go_big_quiet_step (fail))
  refine wpQuiet_nil (hK _ ?_)
  clear hK K
  refine MixH.done (by kernel_rfl) ?_
  have HS2 : Hid (AryAt w4 B x ∧ Below w.heap.size w w4) := hS
  clear hS
  go_wp2
  go_ret
  exact ⟨by congr 3; unfold dots; simp, HS2.out.2⟩
end Go.Proofs.YtfeabifjnihooaaDoor
