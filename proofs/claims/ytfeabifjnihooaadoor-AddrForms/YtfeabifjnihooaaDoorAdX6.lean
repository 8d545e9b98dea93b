/-
  Layer 4: groups.address.
-/
import Derived.Test.YtfeabifjnihooaaDoorAdX5
namespace Go.Proofs.YtfeabifjnihooaaDoor
open Go.RowKit Go.Maps

theorem Tryd.szB : (Tryd.prog.info? 5).map (·.size) = some 1 := by kernel_rfl
theorem GsAt.ar {w : World} {G : Nat} {X : SX} (h : GsAt w G X) : w.rangeAt G 0 (arCells (gb X.g)).toList := by
  intro j v hj
  rw [Nat.zero_add, h.cell]
  rw [arL] at hj
  by_cases hj1 : j < 16
  · rw [List.getElem?_map, List.getElem?_range hj1] at hj
    rw [gsC_byte X j hj1]
    exact hj
  · rw [List.getElem?_eq_none (by simp; omega)] at hj
    cases hj
theorem ar_all {w : World} {O : Nat} {x : Nat → Nat} (h : ArAt w O (arCells x)) : w.rangeAt O 0 (arCells x).toList := by
  intro j v hj
  rw [Nat.zero_add]
  unfold ArAt at h
  simp only [World.cell?, h]
  simpa using hj
theorem ar_congr {x y : Nat → Nat} (h : ∀ i, i < 16 → x i = y i) : arCells x = arCells y := by
  apply Array.toList_inj.1
  rw [arL, arL]
  refine List.map_congr_left fun i hi => ?_
  rw [h i (List.mem_range.1 hi)]
set_option maxHeartbeats 4000000 in
set_option maxRecDepth 100000 in
theorem address_any (G : Nat) (X : SX) (w : World) (h : GsAt w G X) (hg : SxGp X) (h8 : X.gap < 0 → X.g.length = 8) : Calls Tryd.prog 43 #[.pointer (some ⟨G, 0, none⟩)] w fun r w' => r = .returned (.agg (arCells (fil X X.g.length))) ∧ Below w.heap.size w w' := by
  have HGP : Hid (SxGp X) := hg
  obtain ⟨n, hn⟩ : ∃ n, n = X.g.length := ⟨_, rfl⟩
  obtain ⟨a, ha⟩ : ∃ a, X.gap.toNat = a := ⟨_, rfl⟩
  obtain ⟨b, hb⟩ : ∃ b, decide (0 ≤ X.gap) = b := ⟨_, rfl⟩
  have HNA : Hid (n = X.g.length ∧ X.gap.toNat = a ∧ decide (0 ≤ X.gap) = b ∧ (X.gap < 0 → n = 8)) := ⟨hn, ha, hb, fun q => by rw [hn]; exact h8 q⟩
  obtain ⟨W, hW⟩ : ∃ W_, W_ = w.alloc (.cells (arCells (fun _ => 0)) 22) := ⟨_, rfl⟩
  obtain ⟨B, hB⟩ : ∃ B_, B_ = w.heap.size := ⟨_, rfl⟩
  have HAX : Hid (ArAt W B (arCells (fun _ => 0)) ∧ Below w.heap.size w W ∧ W.heap.size = B + 1) := by rw [hW, hB]; exact ⟨heap_alloc_new _ _, (Below.refl _ _).alloc (Nat.le_refl _) _, by rw [World.size_alloc]⟩
  have HWX : Hid (w.alloc (.cells #[.int .u8 0, .int .u8 0, .int .u8 0, .int .u8 0, .int .u8 0, .int .u8 0, .int .u8 0, .int .u8 0, .int .u8 0, .int .u8 0, .int .u8 0, .int .u8 0, .int .u8 0, .int .u8 0, .int .u8 0, .int .u8 0] 22) = W) := hW.symm
  have HOX : Hid (w.heap.size = B) := hB.symm
  clear hW hB
  have HG : Hid (GsAt W G X ∧ W.cell? ⟨G, 17, none⟩ = some (.bool b)) := ⟨h.below HAX.out.2.1, by rw [← hb]; exact (h.below HAX.out.2.1).b⟩
  have k17 := HG.out.2
  have HG0 : Hid (G < w.heap.size) := h.lt
  clear h hg h8 hn ha hb
  go_enter Tryd.func43, Tryd.ntmps43
  go_upto_region 1 with fail
  rw [HOX.out, HWX.out]
  cases b with
  | false =>
    go_wp2_with (first | (refine wpList_load_ar (.tmp 13) rfl G 0 (gb X.g) rfl HG.out.1.ar rfl ?_) | (refine wpList_store_ar (.tmp 2) (.tmp 14) rfl rfl B (fun _ => 0) (gb X.g) rfl rfl HAX.out.1 rfl ?_))
    intro wE hRE kE
    have HE : Hid (ArAt wE B (arCells (gb X.g)) ∧ Below w.heap.size w wE) := ⟨hRE, HAX.out.2.1.trans (kE.below (fun q h => by have h' : q = B := h; have := HOX.out; omega) HAX.out.2.1.size)⟩
    clear hRE kE
    go_wp2
    (try simp only [Exit.inBlock, Exit.then])
    refine bodyPost_ret (results_ar rfl _ _ B (gb X.g) rfl HE.out.1) rfl ?_
    refine ⟨?_, HE.out.2⟩
    have h0 : X.gap < 0 := by have := HNA.out.2.2.1; simp at this; omega
    rw [ar_congr (x := gb X.g) (y := fil X X.g.length) (fun i hi => by rw [fil_adr HGP.out.1 _ (Nat.le_refl _) i, ← HNA.out.1, adr_flat h0 (HNA.out.2.2.2 h0) i hi])]
  | true =>
    have h0 : 0 ≤ X.gap := by have := HNA.out.2.2.1; simp at this; omega
    have HAN : Hid (X.gap = (a : Int) ∧ a ≤ n ∧ n ≤ 7) := by
      have h1 := HGP.out.1
      have h2 := HGP.out.2 h0
      have h3 := HNA.out.1
      have h4 := HNA.out.2.1
      exact ⟨by omega, by omega, by omega⟩
    clear h0
    obtain ⟨Y, hY⟩ : ∃ W_, W_ = W.alloc (.cells (arCells (fun _ => 0)) 22) := ⟨_, rfl⟩
    obtain ⟨A, hA⟩ : ∃ B_, B_ = W.heap.size := ⟨_, rfl⟩
    have HAY : Hid (ArAt Y A (arCells (fun _ => 0)) ∧ Below W.heap.size W Y ∧ Y.heap.size = A + 1) := by rw [hY, hA]; exact ⟨heap_alloc_new _ _, (Below.refl _ _).alloc (Nat.le_refl _) _, by rw [World.size_alloc]⟩
    have HWY : Hid (W.alloc (.cells #[.int .u8 0, .int .u8 0, .int .u8 0, .int .u8 0, .int .u8 0, .int .u8 0, .int .u8 0, .int .u8 0, .int .u8 0, .int .u8 0, .int .u8 0, .int .u8 0, .int .u8 0, .int .u8 0, .int .u8 0, .int .u8 0] 22) = Y) := hY.symm
    have HOY : Hid (W.heap.size = A) := hA.symm
    clear hY hA
    have HS0 : Hid (GsAt Y G X ∧ ArAt Y B (arCells (fun _ => 0)) ∧ ArAt Y A (arCells (fun _ => 0)) ∧ Below w.heap.size w Y) := ⟨HG.out.1.below HAY.out.2.1, ((Ch.ofBelow (S := fun _ => False) HAY.out.2.1).block B (Array.getElem?_eq_some_iff.1 HAX.out.1).1 (fun h => h)).trans HAX.out.1, HAY.out.1, HAX.out.2.1.trans (HAY.out.2.1.mono HAX.out.2.1.size)⟩
    have HBA : Hid (B < A) := by have h1 := HAX.out.2.2; have h2 := HOY.out; show _ < _; omega
    obtain ⟨k0, hk0⟩ : ∃ k0, k0 = 2 * a := ⟨_, rfl⟩
    obtain ⟨k1, hk1⟩ : ∃ k1, k1 = 2 * n := ⟨_, rfl⟩
    have HK : Hid (k0 = 2 * a ∧ k1 = 2 * n) := ⟨hk0, hk1⟩
    have h9 := HAN.out.2
    have x0 : IntKind.i64.wrap (2 * (a : Int)) = (k0 : Int) := by rw [i64_s _ (by omega) (by omega)]; omega
    have x1 : IntKind.i64.wrap (2 * (n : Int)) = (k1 : Int) := by rw [i64_s _ (by omega) (by omega)]; omega
    have b0 : (0 : Int) ≤ (k0 : Int) := by omega
    have b1 : (k0 : Int) ≤ (k1 : Int) := by omega
    have b2 : (k1 : Int) ≤ 16 := by omega
    have b3 : (k0 : Int) ≤ 16 := by omega
    have b4 : (k0 : Int) < 16 := by omega
    have b5 : k0 ≤ 16 := by omega
    have b6 : k1 ≤ 16 := by omega
    have b7 : k0 ≤ k1 := by omega
    have al : Tryd.prog.arrayLen 22 = 16 := by kernel_rfl
    clear hk0 hk1 h9
    go_upto_region 4 with fail
    (try rw [HOY.out])
    (try rw [HWY.out])
    refine MixH.start (fun A_ => GsAt A_ G X ∧ ArAt A_ B (arCells (fun _ => 0)) ∧ ArAt A_ A (arCells (fun _ => 0)) ∧ Below w.heap.size w A_) (by kernel_rfl) ?_
    obtain ⟨wA, hwA⟩ : ∃ W_, W_ = Y.drew := ⟨_, rfl⟩
    have bdr : Below Y.heap.size Y wA := by rw [hwA]; exact (Below.refl _ _).drew
    have hS : GsAt wA G X ∧ ArAt wA B (arCells (fun _ => 0)) ∧ ArAt wA A (arCells (fun _ => 0)) ∧ Below w.heap.size w wA := ⟨HS0.out.1.below bdr, (Ch.ofBelow (S := fun _ => False) bdr).block B (Array.getElem?_eq_some_iff.1 HS0.out.2.1).1 (fun h => h) |>.trans HS0.out.2.1, (Ch.ofBelow (S := fun _ => False) bdr).block A (Array.getElem?_eq_some_iff.1 HS0.out.2.2.1).1 (fun h => h) |>.trans HS0.out.2.2.1, HS0.out.2.2.2.trans (bdr.mono HS0.out.2.2.2.size)⟩
    rw [← hwA]
    clear hwA bdr
    refine MixH.takes [true, true, true, true, true, true, false, false, false, true, true, true, true, true, true, false, false, true, true, true] 10 (by kernel_rfl) (by kernel_rfl) (by decide) (by kernel_rfl) hS (fun K hK => ?_)
    simp only [Mix.pick]
    repeat (go_big_quiet_step (fail))
    refine wpQuiet_nil (hK _ ?_)
    clear hK K
    refine MixH.take 9 6 _ (.int .i64 (a : Nat)) rfl (by kernel_rfl) (by kernel_rfl) (by kernel_rfl) (by kernel_rfl) (yields_int (.tmp 20) rfl ⟨G, 18, none⟩ (.int .i64 (a : Nat)) rfl rfl (fun A hA => by have := hA.1.a; rwa [HNA.out.2.1] at this)) hS (fun a' ha => ?_)
    simp only [Act.put, List.setIfInBounds_toArray, List.set_cons_succ, List.set_cons_zero] at ha
    subst ha
    refine MixH.takes [false, false, false, false, false, false, false, true, true, false, false, false, false, false, false, false, false, false, false, false, false, false, false, true] 6 (by kernel_rfl) (by kernel_rfl) (by decide) (by kernel_rfl) hS (fun K hK => ?_)
    simp only [Mix.pick]
    repeat (go_big_quiet_step (fail))
    refine wpQuiet_nil (hK _ ?_)
    clear hK K
    refine MixH.take 5 15 _ (.int .i64 (a : Nat)) rfl (by kernel_rfl) (by kernel_rfl) (by kernel_rfl) (by kernel_rfl) (yields_int (.tmp 29) rfl ⟨G, 18, none⟩ (.int .i64 (a : Nat)) rfl rfl (fun A hA => by have := hA.1.a; rwa [HNA.out.2.1] at this)) hS (fun a' ha => ?_)
    simp only [Act.put, List.setIfInBounds_toArray, List.set_cons_succ, List.set_cons_zero] at ha
    subst ha
    refine MixH.takes [false, false, false, false, false, false, false, false, false, false, false, false, false, false, false, false, true] 4 (by kernel_rfl) (by kernel_rfl) (by decide) (by kernel_rfl) hS (fun K hK => ?_)
    simp only [Mix.pick]
    repeat (go_big_quiet_step (fail))
    refine wpQuiet_nil (hK _ ?_)
    clear hK K
    refine MixH.take 3 20 _ (.int .i64 (n : Nat)) rfl (by kernel_rfl) (by kernel_rfl) (by kernel_rfl) (by kernel_rfl) (yields_int (.tmp 34) rfl ⟨G, 16, none⟩ (.int .i64 (n : Nat)) rfl rfl (fun A hA => by rw [HNA.out.1]; exact hA.1.n)) hS (fun a' ha => ?_)
    simp only [Act.put, List.setIfInBounds_toArray, List.set_cons_succ, List.set_cons_zero] at ha
    subst ha
    refine MixH.takes [false, false, false, false, false, false, false, false, false, false, false, false, false, false, false, false, false, false, false, false, false, true, true, false, true] 0 (by kernel_rfl) (by kernel_rfl) (by decide) (by kernel_rfl) hS (fun K hK => ?_)
    simp only [Mix.pick]
    repeat (go_big_quiet_step (fail))
    refine wpQuiet_nil (hK _ ?_)
    clear hK K
    refine MixH.done (by kernel_rfl) ?_
    have HS1 : Hid (GsAt wA G X ∧ ArAt wA B (arCells (fun _ => 0)) ∧ ArAt wA A (arCells (fun _ => 0)) ∧ Below w.heap.size w wA) := hS
    clear hS
    have HGA : Hid (G < A ∧ w.heap.size ≤ A) := ⟨by have h1 := HG0.out; have h2 := HOX.out; have h3 := HBA.out; omega, by have h2 := HOX.out; have h3 := HBA.out; omega⟩
    obtain ⟨c1, hc1⟩ : ∃ c1, c1 = cAh X a := ⟨_, rfl⟩
    have HC1 : Hid (c1 = cAh X a ∧ c1.length = k0 ∧ (∀ v ∈ c1, v.oneCell' = true) ∧ ∀ j v, c1[j]? = some v → wA.cell? ((⟨G, 0, none⟩ : Addr).add j) = some v) := by
      refine ⟨hc1, by rw [hc1, HK.out.1]; simp [cAh], fun v hv => ?_, fun j v hj => ?_⟩
      · rw [hc1] at hv
        obtain ⟨i, _, rfl⟩ := List.mem_map.1 hv
        rfl
      · rw [hc1] at hj
        have hjl : j < 2 * a := by have := (List.getElem?_eq_some_iff.1 hj).1; simpa [cAh] using this
        unfold cAh at hj
        rw [List.getElem?_map, List.getElem?_range hjl] at hj
        rw [Addr.add_lit, Nat.zero_add, HS1.out.1.cell, gsC_byte X j (by have := HAN.out; omega)]
        exact hj
    obtain ⟨c2, hc2⟩ : ∃ c2, c2 = cBe X a n := ⟨_, rfl⟩
    obtain ⟨d, hd⟩ : ∃ d, k1 - k0 = d := ⟨_, rfl⟩
    obtain ⟨l0, hl0⟩ : ∃ l0, 16 - d = l0 := ⟨_, rfl⟩
    have HD : Hid (k1 - k0 = d ∧ 16 - d = l0 ∧ d ≤ 16) := ⟨hd, hl0, by omega⟩
    have HC2 : Hid (c2 = cBe X a n ∧ c2.length = d ∧ (∀ v ∈ c2, v.oneCell' = true) ∧ ∀ W_ : World, GsAt W_ G X → ∀ j v, c2[j]? = some v → W_.cell? ((⟨G, k0, none⟩ : Addr).add j) = some v) := by
      refine ⟨hc2, by rw [hc2, ← hd, HK.out.1, HK.out.2]; simp [cBe], fun v hv => ?_, fun W_ hW j v hj => ?_⟩
      · rw [hc2] at hv
        obtain ⟨i, _, rfl⟩ := List.mem_map.1 hv
        rfl
      · rw [hc2] at hj
        have hjl : j < 2 * n - 2 * a := by have := (List.getElem?_eq_some_iff.1 hj).1; simpa [cBe] using this
        unfold cBe at hj
        rw [List.getElem?_map, List.getElem?_range hjl] at hj
        rw [Addr.add_lit, HK.out.1, hW.cell, gsC_byte X (2 * a + j) (by have := HAN.out; omega)]
        exact hj
    have x2 : IntKind.i64.wrap (16 - (d : Int)) = (l0 : Int) := by rw [i64_s _ (by omega) (by omega)]; omega
    rw [hd]
    clear hc1 hc2
    go_wp2_with (refine wpList_copy_splice rfl (.tmp 38) (.tmp 39) 55 55 rfl 5 Tryd.underlying55 Tryd.szB (some ⟨A, 0, none⟩) (some ⟨G, 0, none⟩) 16 16 k0 16 rfl rfl A 0 (arCells (fun _ => 0)).toList 22 HS1.out.2.2.1 c1 (by rw [HC1.out.2.1]; show k0 = min k0 16; omega) (fun _ => ⟨rfl, _, rfl, HC1.out.2.2.2⟩) (by rw [HC1.out.2.1]; show 0 + k0 ≤ 16; omega) HC1.out.2.2.1 A wA (Below.refl _ _) (Nat.le_refl _) ?_)
    intro w4 hg4 hb4
    have H4 : Hid (GsAt w4 G X ∧ Below A wA w4) := ⟨(hb4.block G HGA.out.1).trans HS1.out.1, hb4⟩
    have HA4 : Hid (w4.heap[A]? = some (.cells (splice (arCells (fun _ => 0)).toList 0 c1).toArray 22 (0, 0))) := hg4.out
    have hL : (splice (arCells (fun _ => 0)).toList 0 c1).length = 16 := by rw [length_splice _ _ _ (by rw [HC1.out.2.1]; show 0 + k0 ≤ 16; omega)]; rfl
    obtain ⟨L1, hL1⟩ : ∃ L1, splice (arCells (fun _ => 0)).toList 0 c1 = L1 := ⟨_, rfl⟩
    rw [hL1] at hL
    have HL1 : Hid (splice (arCells (fun _ => 0)).toList 0 c1 = L1 ∧ L1.length = 16 ∧ w4.heap[A]? = some (.cells L1.toArray 22 (0, 0))) := ⟨hL1, hL, by have := HA4.out; rw [hL1] at this; exact this⟩
    clear hg4 hb4 hL hL1
    by_cases h0 : d = 0
    · have HD0 : Hid (d = 0 ∧ l0 = 16) := ⟨h0, by omega⟩
      obtain rfl := HD0.out.2
      obtain rfl := HD0.out.1
      clear h0
      go_wp2_with (refine wpList_copy_splice rfl (.tmp 44) (.tmp 45) 55 55 rfl 5 Tryd.underlying55 Tryd.szB _ (some ⟨G, k0, none⟩) _ _ 0 _ rfl rfl A 16 L1 22 HL1.out.2.2 c2 (by rw [HC2.out.2.1]; simp) (fun h => absurd h (by rw [HC2.out.2.1]; decide)) (by rw [HC2.out.2.1, HL1.out.2.1]; have := HD.out; omega) HC2.out.2.2.1 A wA H4.out.2 (Nat.le_refl _) ?_)
      intro w5 hg5 hb5
      have H5 : Hid (ArAt w5 A (arCells (adr X n)) ∧ Below A wA w5) := by
        refine ⟨?_, hb5⟩
        have h := hg5.out
        have e := adr_cells (X := X) (a := a) (n := n) HNA.out.1.symm HAN.out.1 HAN.out.2.1 HAN.out.2.2
        rw [← HC1.out.1, ← HC2.out.1, HL1.out.1, show 16 - (2 * n - 2 * a) = 16 by have h1 := HK.out; have h2 := HD.out; omega] at e
        rw [e] at h
        exact h
      have HB5 : Hid (ArAt w5 B (arCells (fun _ => 0))) := (hb5.block B HBA.out).trans HS1.out.2.1
      clear hg5 hb5
      go_wp2_with (first | (refine wpList_load_ar (.tmp 3) rfl A 0 (adr X n) rfl (ar_all H5.out.1) rfl ?_) | (refine wpList_store_ar (.tmp 2) (.tmp 47) rfl rfl B (fun _ => 0) (adr X n) rfl rfl HB5.out rfl ?_))
      intro wE hRE kE
      have HE : Hid (ArAt wE B (arCells (adr X n)) ∧ Below w.heap.size w wE) := ⟨hRE, (HS1.out.2.2.2.trans (H5.out.2.mono HGA.out.2)).trans (kE.below (fun q h => by have h' : q = B := h; have := HOX.out; omega) (HS1.out.2.2.2.trans (H5.out.2.mono HGA.out.2)).size)⟩
      clear hRE kE
      go_wp2
      (try simp only [Exit.inBlock, Exit.then])
      refine bodyPost_ret (results_ar rfl _ _ B (adr X n) rfl HE.out.1) rfl ?_
      refine ⟨?_, HE.out.2⟩
      rw [ar_congr (x := adr X n) (y := fil X X.g.length) (fun i _ => by rw [fil_adr HGP.out.1 _ (Nat.le_refl _) i, ← HNA.out.1])]
    · have y1 : l0 < 16 := by omega
      have y2 : (l0 : Int) < 16 := by omega
      have y3 : (l0 : Int) ≤ 16 := by omega
      have y4 : (0 : Int) ≤ (l0 : Int) := by omega
      have y5 : l0 ≤ 16 := by omega
      clear h0 hd hl0
      go_wp2_with (refine wpList_copy_splice rfl (.tmp 44) (.tmp 45) 55 55 rfl 5 Tryd.underlying55 Tryd.szB (some ⟨A, l0, none⟩) (some ⟨G, k0, none⟩) (16 - l0) (16 - l0) d _ rfl rfl A l0 L1 22 HL1.out.2.2 c2 (by rw [HC2.out.2.1]; show d = min d (16 - l0); have := HD.out; omega) (fun _ => ⟨rfl, _, rfl, HC2.out.2.2.2 w4 H4.out.1⟩) (by rw [HC2.out.2.1, HL1.out.2.1]; have := HD.out; omega) HC2.out.2.2.1 A wA H4.out.2 (Nat.le_refl _) ?_)
      intro w5 hg5 hb5
      have H5 : Hid (ArAt w5 A (arCells (adr X n)) ∧ Below A wA w5) := by
        refine ⟨?_, hb5⟩
        have h := hg5.out
        have e := adr_cells (X := X) (a := a) (n := n) HNA.out.1.symm HAN.out.1 HAN.out.2.1 HAN.out.2.2
        rw [← HC1.out.1, ← HC2.out.1, HL1.out.1, show 16 - (2 * n - 2 * a) = l0 by have h1 := HK.out; have h2 := HD.out; omega] at e
        rw [e] at h
        exact h
      have HB5 : Hid (ArAt w5 B (arCells (fun _ => 0))) := (hb5.block B HBA.out).trans HS1.out.2.1
      clear hg5 hb5
      go_wp2_with (first | (refine wpList_load_ar (.tmp 3) rfl A 0 (adr X n) rfl (ar_all H5.out.1) rfl ?_) | (refine wpList_store_ar (.tmp 2) (.tmp 47) rfl rfl B (fun _ => 0) (adr X n) rfl rfl HB5.out rfl ?_))
      intro wE hRE kE
      have HE : Hid (ArAt wE B (arCells (adr X n)) ∧ Below w.heap.size w wE) := ⟨hRE, (HS1.out.2.2.2.trans (H5.out.2.mono HGA.out.2)).trans (kE.below (fun q h => by have h' : q = B := h; have := HOX.out; omega) (HS1.out.2.2.2.trans (H5.out.2.mono HGA.out.2)).size)⟩
      clear hRE kE
      go_wp2
      (try simp only [Exit.inBlock, Exit.then])
      refine bodyPost_ret (results_ar rfl _ _ B (adr X n) rfl HE.out.1) rfl ?_
      refine ⟨?_, HE.out.2⟩
      rw [ar_congr (x := adr X n) (y := fil X X.g.length) (fun i _ => by rw [fil_adr HGP.out.1 _ (Nat.le_refl _) i, ← HNA.out.1])]
end Go.Proofs.YtfeabifjnihooaaDoor
