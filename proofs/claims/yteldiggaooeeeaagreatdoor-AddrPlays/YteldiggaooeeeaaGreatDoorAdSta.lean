/-
  Layer 4: weirlaw4: num, loop, started.
-/
import Derived.Test.YteldiggaooeeeaaGreatDoorZw
namespace Go.Proofs.YteldiggaooeeeaaGreatDoor
open Go.RowKit Go.Maps

def lpX (i : Nat) : Nat := if i = 0 then 127 else if i = 3 then 1 else 0
theorem lpX_lt : ∀ i, i < 16 → lpX i < 256 := fun i _ => by unfold lpX; split <;> (try split) <;> omega
theorem lp_vld : vld 4 lpX = true := by decide
theorem lp_class : clsA 4 lpX = 2 := by decide +kernel
def lpS : ByteArray := ⟨#[49, 50, 55, 46, 48, 46, 48, 46, 49]⟩
theorem lp_text : txB (dots (lpX 0) (lpX 1) (lpX 2) (lpX 3)) = lpS := by
  unfold txB lpS
  congr 1
theorem lp_parse : ipO (pIP lpS) = .tuple #[.agg (ipCells 4 lpX), .int .i64 0, .int .i64 0] := by
  have h : drp lpS 0 = dots 127 0 0 1 := by decide +kernel
  rw [parse_four (by decide) (by decide) (by decide) (by decide) h]
  rfl
theorem lp_eq : ((4 : Int) == 4 && same16 lpX lpX) = true := by decide
theorem lp_str : (lpS.toList == [49, 50, 55, 46, 48, 46, 48, 46, 49]) = true := by decide +kernel
theorem lp_hs : hsB lpS 58 = false := by decide +kernel
set_option maxHeartbeats 1600000 in
set_option maxRecDepth 100000 in
theorem num4_any (e : Int) (w : World) : Calls Tryz.prog 13 #[.int .i64 e] w fun r w' => r = .returned (.int .i64 e) ∧ w = w' := by

  go_enter Tryz.func13, Tryz.ntmps13
  go_wp2
  go_ret
  exact ⟨rfl, rfl⟩
set_option maxHeartbeats 1600000 in
set_option maxRecDepth 100000 in
theorem loop_any (w : World) : Calls Tryz.prog 11 #[] w fun r w' => r = .returned (.agg (ipCells 4 lpX)) ∧ Below w.heap.size w w' := by

  go_enter Tryz.func11, Tryz.ntmps11
  go_wp2
  refine bodyPost_ret (results_ipr rfl _ _ w.heap.size 4 lpX rfl (ipr_new w 4 lpX)) rfl ?_
  exact ⟨rfl, (Below.refl _ _).alloc (Nat.le_refl _) _⟩
set_option maxHeartbeats 1600000 in
set_option maxRecDepth 100000 in
theorem started_any (w : World) (hp : Pow w) (hs : Spe8 w) : Calls Tryz.prog 7 #[] w fun r w' => r = .returned (.bool true) ∧ Below w.heap.size w w' := by
  have HPW : Hid (Pow w) := hp
  have HSP : Hid (Spe8 w) := hs
  clear hp hs
  go_enter Tryz.func7, Tryz.ntmps7
  go_wp2_with fail
  refine (parse4_any lpS w (by decide) lp_hs).mono ?_
  rintro e w1 ⟨rfl, hb1⟩
  rw [lp_parse]
  have H1 : Hid (Below w.heap.size w w1) := hb1
  obtain ⟨O, hO⟩ : ∃ O, O = w1.heap.size := ⟨_, rfl⟩
  have HO : Hid (w1.heap.size = O) := hO.symm
  clear hb1 hO
  go_wp2_with (refine wpList_store_ipr (.tmp 1) (.tmp 9) rfl rfl w1.heap.size 0 (fun _ => 0) 4 lpX rfl rfl (ipr_new w1 0 (fun _ => 0)) rfl ?_)
  intro wE hRE kE
  rw [HO.out] at hRE kE ⊢
  have HE : Hid (IprAt wE O 4 lpX ∧ Below w.heap.size w wE) := ⟨hRE, ((H1.out.alloc H1.out.size _).trans (kE.below (fun q h => by have h' : q = O := h; have h1 := HO.out; have h2 := H1.out.size; omega) (by have := H1.out.size; rw [World.size_alloc]; omega)))⟩
  clear hRE kE
  go_wp2_with fail
  refine (loop_any wE).mono ?_
  rintro e w2 ⟨rfl, hb2⟩
  have H2 : Hid (IprAt w2 O 4 lpX ∧ Below w.heap.size w w2) := ⟨HE.out.1.below hb2, HE.out.2.trans (hb2.mono HE.out.2.size)⟩
  clear hb2
  go_wp2_with fail
  refine (print4_any lpX w2 lpX_lt lp_vld (HPW.out.below H2.out.2)).mono ?_
  rintro e w3 ⟨rfl, hb3⟩
  rw [lp_text]
  have H3 : Hid (IprAt w3 O 4 lpX ∧ Below w.heap.size w w3) := ⟨H2.out.1.below hb3, H2.out.2.trans (hb3.mono H2.out.2.size)⟩
  clear hb3
  go_wp2_with fail
  refine (loop_any w3).mono ?_
  rintro e w4 ⟨rfl, hb4⟩
  have H4 : Hid (IprAt w4 O 4 lpX ∧ Below w.heap.size w w4) := ⟨H3.out.1.below hb4, H3.out.2.trans (hb4.mono H3.out.2.size)⟩
  clear hb4
  go_wp2_with fail
  refine (class_any 4 lpX w4 lpX_lt (HSP.out.old H4.out.2)).mono ?_
  rintro e w5 ⟨rfl, hb5⟩
  rw [lp_class]
  have H5 : Hid (IprAt w5 O 4 lpX ∧ Below w.heap.size w w5) := ⟨H4.out.1.below hb5, H4.out.2.trans (hb5.mono H4.out.2.size)⟩
  clear hb5
  go_upto_region 4 with fail
  refine MixH.start (fun A => IprAt A O 4 lpX ∧ Below w.heap.size w A) (by kernel_rfl) ?_
  obtain ⟨wA, hwA⟩ : ∃ W_, W_ = w5.drew := ⟨_, rfl⟩
  have bdr : Below w5.heap.size w5 wA := by rw [hwA]; exact (Below.refl _ _).drew
  have hS : IprAt wA O 4 lpX ∧ Below w.heap.size w wA := ⟨H5.out.1.below bdr, H5.out.2.trans (bdr.mono H5.out.2.size)⟩
  rw [← hwA]
  clear hwA bdr
  refine MixH.take 25 0 _ (.agg (ipCells 4 lpX)) rfl (by kernel_rfl) (by kernel_rfl) (by kernel_rfl) (by kernel_rfl) (yields_ipr (.tmp 1) rfl O 0 4 lpX rfl rfl (fun A hA => ipr_all hA.1)) hS (fun a' ha => ?_)
  simp only [Act.put, List.setIfInBounds_toArray, List.set_cons_succ, List.set_cons_zero] at ha
  subst ha
  refine MixH.one [false, true] 24 1 _ rfl rfl (by kernel_rfl) (by kernel_rfl) (fun K hK => ?_)
  simp only [Mix.pick]
  go_wp2_with fail
  refine Calls.mono (loop_any wA) ?_
  rintro e wL ⟨rfl, hb⟩
  have hS : IprAt wL O 4 lpX ∧ Below w.heap.size w wL := ⟨hS.1.below hb, hS.2.trans (hb.mono hS.2.size)⟩
  clear hb
  go_wp2_with fail
  refine ⟨rfl, hK _ _ hS ?_⟩
  clear hK K
  refine MixH.one [false, false, true] 23 2 _ rfl rfl (by kernel_rfl) (by kernel_rfl) (fun K hK => ?_)
  simp only [Mix.pick]
  go_wp2_with (refine wpList_eql_ip (.tmp 19) (.tmp 20) rfl 4 4 lpX lpX rfl rfl rfl ?_)
  rw [same16_rf]
  refine ⟨rfl, hK _ _ hS ?_⟩
  clear hK K
  refine MixH.takes [false, false, false, true, true] 21 (by kernel_rfl) (by kernel_rfl) (by decide) (by kernel_rfl) hS (fun K hK => ?_)
  simp only [Mix.pick]
  repeat (go_big_quiet_step (fail))
  refine wpQuiet_nil (hK _ ?_)
  clear hK K
  refine MixH.one [false, false, false, false, false, true] 20 5 _ rfl rfl (by kernel_rfl) (by kernel_rfl) (fun K hK => ?_)
  simp only [Mix.pick]
  go_wp2_with fail
  refine Calls.mono (num4_any 0 wL) ?_
  rintro e wz ⟨rfl, rfl⟩
  go_wp2_with fail
  refine ⟨rfl, hK _ _ hS ?_⟩
  clear hK K
  refine MixH.takes [false, false, false, false, false, false, true, true, true, true, true, true, true, true] 12 (by kernel_rfl) (by kernel_rfl) (by decide) (by kernel_rfl) hS (fun K hK => ?_)
  simp only [Mix.pick]
  repeat (go_big_quiet_step (fail))
  refine wpQuiet_nil (hK _ ?_)
  clear hK K
  refine MixH.one [false, false, false, false, false, false, false, false, false, false, false, false, false, false, true] 11 14 _ rfl rfl (by kernel_rfl) (by kernel_rfl) (fun K hK => ?_)
  simp only [Mix.pick]
  go_wp2
  rw [lp_str]
  refine ⟨rfl, hK _ _ hS ?_⟩
  clear hK K
  refine MixH.takes [false, false, false, false, false, false, false, false, false, false, false, false, false, false, false, true, true, true] 8 (by kernel_rfl) (by kernel_rfl) (by decide) (by kernel_rfl) hS (fun K hK => ?_)
  simp only [Mix.pick]
  repeat (go_big_quiet_step (fail))
  refine wpQuiet_nil (hK _ ?_)
  clear hK K
  refine MixH.one [false, false, false, false, false, false, false, false, false, false, false, false, false, false, false, false, false, false, true] 7 18 _ rfl rfl (by kernel_rfl) (by kernel_rfl) (fun K hK => ?_)
  simp only [Mix.pick]
  go_wp2_with fail
  refine Calls.mono (num4_any 0 wL) ?_
  rintro e wz ⟨rfl, rfl⟩
  go_wp2_with fail
  refine ⟨rfl, hK _ _ hS ?_⟩
  clear hK K
  refine MixH.takes [false, false, false, false, false, false, false, false, false, false, false, false, false, false, false, false, false, false, false, true, true, true, true, true, true, true] 0 (by kernel_rfl) (by kernel_rfl) (by decide) (by kernel_rfl) hS (fun K hK => ?_)
  simp only [Mix.pick]
  repeat (go_big_quiet_step (fail))
  refine wpQuiet_nil (hK _ ?_)
  clear hK K
  refine MixH.done (by kernel_rfl) ?_
  have HS2 : Hid (IprAt wL O 4 lpX ∧ Below w.heap.size w wL) := hS
  clear hS
  go_wp2
  go_ret
  exact ⟨rfl, HS2.out.2⟩
end Go.Proofs.YteldiggaooeeeaaGreatDoor
