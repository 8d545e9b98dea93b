/-
  Layer 4: addr.Contains.
-/
import Derived.Test.YteldiggaooeeeaaGreatDoorAdFn1
namespace Go.Proofs.YteldiggaooeeeaaGreatDoor
open Go.RowKit Go.Maps

def conB (p : PV) (V : Int) (x : Nat → Nat) : Bool := vpE p == 0 && vld V x && p.V == V && same16 (hdA x p.n.toNat) p.x
theorem ipr_all {w : World} {O : Nat} {V : Int} {x : Nat → Nat} (h : IprAt w O V x) : w.rangeAt O 0 (ipCells V x).toList := by
  intro j v hj
  rw [Nat.zero_add, h.cell]
  simpa using hj
theorem PfxAt.all {w : World} {O : Nat} {p : PV} (h : PfxAt w O p) : w.rangeAt O 0 (pfC p).toList := by
  intro j v hj
  rw [Nat.zero_add, h.cell]
  simpa using hj
theorem vp_n {p : PV} (h : vpE p = 0) : 0 ≤ p.n ∧ p.n ≤ 128 ∧ ((p.n.toNat : Nat) : Int) = p.n := by
  have hm : mkE p.V p.x p.n = 0 := by
    unfold vpE at h
    split at h
    · assumption
    · exact h
  unfold mkE at hm
  split at hm
  · omega
  · split at hm
    · omega
    · rename_i h1
      have := bitV_le p.V
      omega
set_option maxHeartbeats 3200000 in
set_option maxRecDepth 100000 in
theorem contains_any (p : PV) (V : Int) (x : Nat → Nat) (w : World) (hp : ∀ i, i < 16 → p.x i < 256) (hx : ∀ i, i < 16 → x i < 256) : Calls Tryz.prog 57 #[.agg (pfC p), .agg (ipCells V x)] w fun e w' => e = .returned (.bool (conB p V x)) ∧ Below w.heap.size w w' := by
  have hb := pfx_new w p
  have hi := ipr_new (w.alloc (.cells (pfC p) 38)) V x
  rw [World.size_alloc] at hi
  have hb2 := hb.below ((Below.refl _ _).alloc (Nat.le_refl _) (.cells (ipCells V x) 28))
  have bel : Below w.heap.size w ((w.alloc (.cells (pfC p) 38)).alloc (.cells (ipCells V x) 28)) := ((Below.refl _ _).alloc (Nat.le_refl _) _).alloc (by simp) _
  obtain ⟨C1, hC1⟩ : ∃ C, C = pfC p := ⟨_, rfl⟩
  obtain ⟨C2, hC2⟩ : ∃ C, C = ipCells V x := ⟨_, rfl⟩
  obtain ⟨W, hW⟩ : ∃ W, W = (w.alloc (.cells (pfC p) 38)).alloc (.cells (ipCells V x) 28) := ⟨_, rfl⟩
  rw [← hW] at hi hb2 bel
  obtain ⟨B, hB⟩ : ∃ B, B = w.heap.size := ⟨_, rfl⟩
  rw [← hB] at hi hb2
  have HP : Hid (PfxAt W B p) := hb2
  have HI : Hid (IprAt W (B + 1) V x) := hi
  rw [← hC1, ← hC2] at hW ⊢
  have HB : Hid (w.heap.size = B) := hB.symm
  have HBL : Hid (Below w.heap.size w W) := bel
  have HW : Hid ((w.alloc (.cells C1 38)).alloc (.cells C2 28) = W) := hW.symm
  have QV : Hid (∀ A, Calls Tryz.prog 53 #[.agg (pfC p)] A _) := fun A => vpref_any p A hp
  have QL : Hid (∀ A, Calls Tryz.prog 18 #[.agg (ipCells V x)] A _) := fun A => valid_any V x A hx
  have HX : Hid (∀ i, i < 16 → x i < 256) := hx
  obtain ⟨vp, hvp⟩ : ∃ vp, vp = vpE p := ⟨_, rfl⟩
  obtain ⟨vl, hvl⟩ : ∃ vl, vl = vld V x := ⟨_, rfl⟩
  rw [← hvp] at QV
  rw [← hvl] at QL
  have HVP : Hid (vpE p = vp) := hvp.symm
  have HVL : Hid (vld V x = vl) := hvl.symm
  clear hb hi hb2 hW hB hC1 hC2 hx hp hvp hvl bel
  go_enter Tryz.func57, Tryz.ntmps57
  go_upto_region 1 with fail
  rw [HB.out, HW.out]
  refine MixH.start (fun A => Below w.heap.size w A ∧ PfxAt A B p ∧ IprAt A (B + 1) V x) (by kernel_rfl) ?_
  obtain ⟨wA, hwA⟩ : ∃ wA, wA = W.drew := ⟨_, rfl⟩
  have bdr : Below W.heap.size W wA := by rw [hwA]; exact (Below.refl _ _).drew
  have hS : Below w.heap.size w wA ∧ PfxAt wA B p ∧ IprAt wA (B + 1) V x := ⟨bthen HBL.out bdr, HP.out.below bdr, HI.out.below bdr⟩
  rw [← hwA]
  clear hwA
  by_cases h0 : vp = 0
  · subst h0
    have QH : Hid (∀ A, Calls Tryz.prog 20 #[.agg (arCells x), .int .i64 p.n] A fun e w' => e = .returned (.agg (arCells (hdA x p.n.toNat))) ∧ Below A.heap.size A w') := fun A => by
      have hn := vp_n HVP.out
      have := head_any x p.n.toNat A (by omega) HX.out
      rwa [hn.2.2] at this
    cases vl with
    | false =>
      refine MixH.take 26 0 _ (.agg (pfC p)) rfl (by kernel_rfl) (by kernel_rfl) (by kernel_rfl) (by kernel_rfl) (yields_pfx (.tmp 2) rfl B 0 p rfl rfl (fun A hA => hA.2.1.all)) hS (fun a' ha => ?_)
      simp only [Act.put, List.setIfInBounds_toArray, List.set_cons_succ, List.set_cons_zero] at ha
      subst ha
      refine MixH.one [false, true] 25 1 _ rfl rfl (by kernel_rfl) (by kernel_rfl) (fun K hK => ?_)
      simp only [Mix.pick]
      go_wp2_with fail
      refine Calls.mono (QV.out wA) ?_
      rintro e wB ⟨rfl, bB⟩
      replace hS : Below w.heap.size w wB ∧ PfxAt wB B p ∧ IprAt wB (B + 1) V x := ⟨bthen hS.1 bB, hS.2.1.below bB, hS.2.2.below bB⟩
      clear bB
      go_wp2_with fail
      refine ⟨rfl, hK _ _ hS ?_⟩
      clear hK K
      refine MixH.takes [false, false, true, true] 23 (by kernel_rfl) (by kernel_rfl) (by decide) (by kernel_rfl) hS (fun K hK => ?_)
      simp only [Mix.pick]
      repeat (go_big_quiet_step (fail))
      refine wpQuiet_nil (hK _ ?_)
      clear hK K
      refine MixH.take 22 4 _ (.agg (ipCells V x)) rfl (by kernel_rfl) (by kernel_rfl) (by kernel_rfl) (by kernel_rfl) (yields_ipr (.tmp 3) rfl (B + 1) 0 V x rfl rfl (fun A hA => ipr_all hA.2.2)) hS (fun a' ha => ?_)
      simp only [Act.put, List.setIfInBounds_toArray, List.set_cons_succ, List.set_cons_zero] at ha
      subst ha
      refine MixH.one [false, false, false, false, false, true] 21 5 _ rfl rfl (by kernel_rfl) (by kernel_rfl) (fun K hK => ?_)
      simp only [Mix.pick]
      go_wp2_with fail
      refine Calls.mono (QL.out wB) ?_
      rintro e wC ⟨rfl, bC⟩
      replace hS : Below w.heap.size w wC ∧ PfxAt wC B p ∧ IprAt wC (B + 1) V x := ⟨bthen hS.1 bC, hS.2.1.below bC, hS.2.2.below bC⟩
      clear bC
      go_wp2_with fail
      refine ⟨rfl, hK _ _ hS ?_⟩
      clear hK K
      refine MixH.takes [false, false, false, false, false, false, true, true] 19 (by kernel_rfl) (by kernel_rfl) (by decide) (by kernel_rfl) hS (fun K hK => ?_)
      simp only [Mix.pick]
      repeat (go_big_quiet_step (fail))
      refine wpQuiet_nil (hK _ ?_)
      clear hK K
      refine MixH.take 18 8 _ (undef) rfl (by kernel_rfl) (by kernel_rfl) (by kernel_rfl) (by kernel_rfl) (.inr ⟨rfl, rfl⟩) hS (fun a' ha => ?_)
      simp only [Act.put, List.setIfInBounds_toArray, List.set_cons_succ, List.set_cons_zero] at ha
      subst ha
      refine MixH.take 17 9 _ (undef) rfl (by kernel_rfl) (by kernel_rfl) (by kernel_rfl) (by kernel_rfl) (.inr ⟨rfl, rfl⟩) hS (fun a' ha => ?_)
      simp only [Act.put, List.setIfInBounds_toArray, List.set_cons_succ, List.set_cons_zero] at ha
      subst ha
      refine MixH.take 16 10 _ (undef) rfl (by kernel_rfl) (by kernel_rfl) (by kernel_rfl) (by kernel_rfl) (.inr ⟨rfl, rfl⟩) hS (fun a' ha => ?_)
      simp only [Act.put, List.setIfInBounds_toArray, List.set_cons_succ, List.set_cons_zero] at ha
      subst ha
      refine MixH.take 15 11 _ (undef) rfl (by kernel_rfl) (by kernel_rfl) (by kernel_rfl) (by kernel_rfl) (.inr ⟨rfl, rfl⟩) hS (fun a' ha => ?_)
      simp only [Act.put, List.setIfInBounds_toArray, List.set_cons_succ, List.set_cons_zero] at ha
      subst ha
      refine MixH.take 14 12 _ (undef) rfl (by kernel_rfl) (by kernel_rfl) (by kernel_rfl) (by kernel_rfl) (.inr ⟨rfl, rfl⟩) hS (fun a' ha => ?_)
      simp only [Act.put, List.setIfInBounds_toArray, List.set_cons_succ, List.set_cons_zero] at ha
      subst ha
      refine MixH.take 13 13 _ (undef) rfl (by kernel_rfl) (by kernel_rfl) (by kernel_rfl) (by kernel_rfl) (.inr ⟨rfl, rfl⟩) hS (fun a' ha => ?_)
      simp only [Act.put, List.setIfInBounds_toArray, List.set_cons_succ, List.set_cons_zero] at ha
      subst ha
      refine MixH.takes [false, false, false, false, false, false, false, false, false, false, false, false, false, false, true, true] 11 (by kernel_rfl) (by kernel_rfl) (by decide) (by kernel_rfl) hS (fun K hK => ?_)
      simp only [Mix.pick]
      repeat (go_big_quiet_step (fail))
      refine wpQuiet_nil (hK _ ?_)
      clear hK K
      refine MixH.take 10 16 _ (undef) rfl (by kernel_rfl) (by kernel_rfl) (by kernel_rfl) (by kernel_rfl) (.inr ⟨rfl, rfl⟩) hS (fun a' ha => ?_)
      simp only [Act.put, List.setIfInBounds_toArray, List.set_cons_succ, List.set_cons_zero] at ha
      subst ha
      refine MixH.take 9 17 _ (undef) rfl (by kernel_rfl) (by kernel_rfl) (by kernel_rfl) (by kernel_rfl) (.inr ⟨rfl, rfl⟩) hS (fun a' ha => ?_)
      simp only [Act.put, List.setIfInBounds_toArray, List.set_cons_succ, List.set_cons_zero] at ha
      subst ha
      refine MixH.take 8 18 _ (undef) rfl (by kernel_rfl) (by kernel_rfl) (by kernel_rfl) (by kernel_rfl) (.inr ⟨rfl, rfl⟩) hS (fun a' ha => ?_)
      simp only [Act.put, List.setIfInBounds_toArray, List.set_cons_succ, List.set_cons_zero] at ha
      subst ha
      refine MixH.take 7 19 _ (undef) rfl (by kernel_rfl) (by kernel_rfl) (by kernel_rfl) (by kernel_rfl) (.inr ⟨rfl, rfl⟩) hS (fun a' ha => ?_)
      simp only [Act.put, List.setIfInBounds_toArray, List.set_cons_succ, List.set_cons_zero] at ha
      subst ha
      refine MixH.take 6 20 _ (undef) rfl (by kernel_rfl) (by kernel_rfl) (by kernel_rfl) (by kernel_rfl) (.inr ⟨rfl, rfl⟩) hS (fun a' ha => ?_)
      simp only [Act.put, List.setIfInBounds_toArray, List.set_cons_succ, List.set_cons_zero] at ha
      subst ha
      refine MixH.take 5 21 _ (undef) rfl (by kernel_rfl) (by kernel_rfl) (by kernel_rfl) (by kernel_rfl) (.inr ⟨rfl, rfl⟩) hS (fun a' ha => ?_)
      simp only [Act.put, List.setIfInBounds_toArray, List.set_cons_succ, List.set_cons_zero] at ha
      subst ha
      refine MixH.take 4 22 _ (undef) rfl (by kernel_rfl) (by kernel_rfl) (by kernel_rfl) (by kernel_rfl) (.inr ⟨rfl, rfl⟩) hS (fun a' ha => ?_)
      simp only [Act.put, List.setIfInBounds_toArray, List.set_cons_succ, List.set_cons_zero] at ha
      subst ha
      refine MixH.take 3 23 _ (undef) rfl (by kernel_rfl) (by kernel_rfl) (by kernel_rfl) (by kernel_rfl) (.inr ⟨rfl, rfl⟩) hS (fun a' ha => ?_)
      simp only [Act.put, List.setIfInBounds_toArray, List.set_cons_succ, List.set_cons_zero] at ha
      subst ha
      refine MixH.take 2 24 _ (undef) rfl (by kernel_rfl) (by kernel_rfl) (by kernel_rfl) (by kernel_rfl) (.inr ⟨rfl, rfl⟩) hS (fun a' ha => ?_)
      simp only [Act.put, List.setIfInBounds_toArray, List.set_cons_succ, List.set_cons_zero] at ha
      subst ha
      refine MixH.takes [false, false, false, false, false, false, false, false, false, false, false, false, false, false, false, false, false, false, false, false, false, false, false, false, false, true, true] 0 (by kernel_rfl) (by kernel_rfl) (by decide) (by kernel_rfl) hS (fun K hK => ?_)
      simp only [Mix.pick]
      repeat (go_big_quiet_step (fail))
      refine wpQuiet_nil (hK _ ?_)
      clear hK K
      refine MixH.done (by kernel_rfl) ?_
      have HE : Hid (Below w.heap.size w wC) := hS.1
      clear hS
      go_wp2_with fail
      go_ret
      refine ⟨?_, HE.out⟩
      unfold conB
      rw [HVP.out, HVL.out]
      rfl
    | true =>
      by_cases hv : p.V = V
      · have qv : (p.V == V) = true := by simpa using hv
        refine MixH.take 26 0 _ (.agg (pfC p)) rfl (by kernel_rfl) (by kernel_rfl) (by kernel_rfl) (by kernel_rfl) (yields_pfx (.tmp 2) rfl B 0 p rfl rfl (fun A hA => hA.2.1.all)) hS (fun a' ha => ?_)
        simp only [Act.put, List.setIfInBounds_toArray, List.set_cons_succ, List.set_cons_zero] at ha
        subst ha
        refine MixH.one [false, true] 25 1 _ rfl rfl (by kernel_rfl) (by kernel_rfl) (fun K hK => ?_)
        simp only [Mix.pick]
        go_wp2_with fail
        refine Calls.mono (QV.out wA) ?_
        rintro e wB ⟨rfl, bB⟩
        replace hS : Below w.heap.size w wB ∧ PfxAt wB B p ∧ IprAt wB (B + 1) V x := ⟨bthen hS.1 bB, hS.2.1.below bB, hS.2.2.below bB⟩
        clear bB
        go_wp2_with fail
        refine ⟨rfl, hK _ _ hS ?_⟩
        clear hK K
        refine MixH.takes [false, false, true, true] 23 (by kernel_rfl) (by kernel_rfl) (by decide) (by kernel_rfl) hS (fun K hK => ?_)
        simp only [Mix.pick]
        repeat (go_big_quiet_step (fail))
        refine wpQuiet_nil (hK _ ?_)
        clear hK K
        refine MixH.take 22 4 _ (.agg (ipCells V x)) rfl (by kernel_rfl) (by kernel_rfl) (by kernel_rfl) (by kernel_rfl) (yields_ipr (.tmp 3) rfl (B + 1) 0 V x rfl rfl (fun A hA => ipr_all hA.2.2)) hS (fun a' ha => ?_)
        simp only [Act.put, List.setIfInBounds_toArray, List.set_cons_succ, List.set_cons_zero] at ha
        subst ha
        refine MixH.one [false, false, false, false, false, true] 21 5 _ rfl rfl (by kernel_rfl) (by kernel_rfl) (fun K hK => ?_)
        simp only [Mix.pick]
        go_wp2_with fail
        refine Calls.mono (QL.out wB) ?_
        rintro e wC ⟨rfl, bC⟩
        replace hS : Below w.heap.size w wC ∧ PfxAt wC B p ∧ IprAt wC (B + 1) V x := ⟨bthen hS.1 bC, hS.2.1.below bC, hS.2.2.below bC⟩
        clear bC
        go_wp2_with fail
        refine ⟨rfl, hK _ _ hS ?_⟩
        clear hK K
        refine MixH.takes [false, false, false, false, false, false, true, true] 19 (by kernel_rfl) (by kernel_rfl) (by decide) (by kernel_rfl) hS (fun K hK => ?_)
        simp only [Mix.pick]
        repeat (go_big_quiet_step (fail))
        refine wpQuiet_nil (hK _ ?_)
        clear hK K
        refine MixH.takes [false, false, false, false, false, false, false, false, true, true, false, true] 16 (by kernel_rfl) (by kernel_rfl) (by decide) (by kernel_rfl) hS (fun K hK => ?_)
        simp only [Mix.pick]
        repeat (go_big_quiet_step (fail))
        refine wpQuiet_nil (hK _ ?_)
        clear hK K
        refine MixH.take 15 10 _ (.int .i64 p.V) rfl (by kernel_rfl) (by kernel_rfl) (by kernel_rfl) (by kernel_rfl) (yields_int (.tmp 14) rfl ⟨B, 0, none⟩ (.int .i64 p.V) rfl rfl (fun A hA => hA.2.1.cv)) hS (fun a' ha => ?_)
        simp only [Act.put, List.setIfInBounds_toArray, List.set_cons_succ, List.set_cons_zero] at ha
        subst ha
        refine MixH.take 14 12 _ (.int .i64 V) rfl (by kernel_rfl) (by kernel_rfl) (by kernel_rfl) (by kernel_rfl) (yields_int (.tmp 16) rfl ⟨B + 1, 0, none⟩ (.int .i64 V) rfl rfl (fun A hA => hA.2.2.cell 0)) hS (fun a' ha => ?_)
        simp only [Act.put, List.setIfInBounds_toArray, List.set_cons_succ, List.set_cons_zero] at ha
        subst ha
        refine MixH.takes [false, false, false, false, false, false, false, false, false, false, false, false, false, true, true, true] 11 (by kernel_rfl) (by kernel_rfl) (by decide) (by kernel_rfl) hS (fun K hK => ?_)
        simp only [Mix.pick]
        repeat (go_big_quiet_step (fail))
        refine wpQuiet_nil (hK _ ?_)
        clear hK K
        refine MixH.takes [false, false, false, false, false, false, false, false, false, false, false, false, false, false, false, false, true, false, true, false, false, true, true] 7 (by kernel_rfl) (by kernel_rfl) (by decide) (by kernel_rfl) hS (fun K hK => ?_)
        simp only [Mix.pick]
        repeat (go_big_quiet_step (fail))
        refine wpQuiet_nil (hK _ ?_)
        clear hK K
        refine MixH.take 6 17 _ (.agg (arCells x)) rfl (by kernel_rfl) (by kernel_rfl) (by kernel_rfl) (by kernel_rfl) (yields_ar (.tmp 21) rfl (B + 1) 1 x rfl rfl (fun A hA => hA.2.2.ar)) hS (fun a' ha => ?_)
        simp only [Act.put, List.setIfInBounds_toArray, List.set_cons_succ, List.set_cons_zero] at ha
        subst ha
        refine MixH.take 5 19 _ (.int .i64 p.n) rfl (by kernel_rfl) (by kernel_rfl) (by kernel_rfl) (by kernel_rfl) (yields_int (.tmp 23) rfl ⟨B, 17, none⟩ (.int .i64 p.n) rfl rfl (fun A hA => hA.2.1.cn)) hS (fun a' ha => ?_)
        simp only [Act.put, List.setIfInBounds_toArray, List.set_cons_succ, List.set_cons_zero] at ha
        subst ha
        refine MixH.take 4 23 _ (.agg (arCells p.x)) rfl (by kernel_rfl) (by kernel_rfl) (by kernel_rfl) (by kernel_rfl) (yields_ar (.tmp 27) rfl B 1 p.x rfl rfl (fun A hA => hA.2.1.ar)) hS (fun a' ha => ?_)
        simp only [Act.put, List.setIfInBounds_toArray, List.set_cons_succ, List.set_cons_zero] at ha
        subst ha
        refine MixH.one [false, false, false, false, false, false, false, false, false, false, false, false, false, false, false, false, false, false, false, false, true] 3 20 _ rfl rfl (by kernel_rfl) (by kernel_rfl) (fun K hK => ?_)
        simp only [Mix.pick]
        go_wp2_with fail
        refine Calls.mono (QH.out wC) ?_
        rintro e wD ⟨rfl, bD⟩
        replace hS : Below w.heap.size w wD ∧ PfxAt wD B p ∧ IprAt wD (B + 1) V x := ⟨bthen hS.1 bD, hS.2.1.below bD, hS.2.2.below bD⟩
        clear bD
        go_wp2_with fail
        refine ⟨rfl, hK _ _ hS ?_⟩
        clear hK K
        refine MixH.take 2 24 _ (.bool (same16 (hdA x p.n.toNat) p.x)) rfl (by kernel_rfl) (by kernel_rfl) (by kernel_rfl) (by kernel_rfl) (yields_eql_ar (.tmp 25) (.tmp 28) rfl (hdA x p.n.toNat) p.x rfl rfl rfl) hS (fun a' ha => ?_)
        simp only [Act.put, List.setIfInBounds_toArray, List.set_cons_succ, List.set_cons_zero] at ha
        subst ha
        refine MixH.takes [false, false, false, false, false, false, false, false, false, false, false, false, false, false, false, false, false, false, false, false, false, false, false, false, false, true, true] 0 (by kernel_rfl) (by kernel_rfl) (by decide) (by kernel_rfl) hS (fun K hK => ?_)
        simp only [Mix.pick]
        repeat (go_big_quiet_step (fail))
        refine wpQuiet_nil (hK _ ?_)
        clear hK K
        refine MixH.done (by kernel_rfl) ?_
        have HE : Hid (Below w.heap.size w wD) := hS.1
        clear hS
        go_wp2_with fail
        go_ret
        refine ⟨?_, HE.out⟩
        unfold conB
        rw [HVP.out, HVL.out, qv]
        rfl
      · have qv : (p.V == V) = false := by simpa using hv
        refine MixH.take 26 0 _ (.agg (pfC p)) rfl (by kernel_rfl) (by kernel_rfl) (by kernel_rfl) (by kernel_rfl) (yields_pfx (.tmp 2) rfl B 0 p rfl rfl (fun A hA => hA.2.1.all)) hS (fun a' ha => ?_)
        simp only [Act.put, List.setIfInBounds_toArray, List.set_cons_succ, List.set_cons_zero] at ha
        subst ha
        refine MixH.one [false, true] 25 1 _ rfl rfl (by kernel_rfl) (by kernel_rfl) (fun K hK => ?_)
        simp only [Mix.pick]
        go_wp2_with fail
        refine Calls.mono (QV.out wA) ?_
        rintro e wB ⟨rfl, bB⟩
        replace hS : Below w.heap.size w wB ∧ PfxAt wB B p ∧ IprAt wB (B + 1) V x := ⟨bthen hS.1 bB, hS.2.1.below bB, hS.2.2.below bB⟩
        clear bB
        go_wp2_with fail
        refine ⟨rfl, hK _ _ hS ?_⟩
        clear hK K
        refine MixH.takes [false, false, true, true] 23 (by kernel_rfl) (by kernel_rfl) (by decide) (by kernel_rfl) hS (fun K hK => ?_)
        simp only [Mix.pick]
        repeat (go_big_quiet_step (fail))
        refine wpQuiet_nil (hK _ ?_)
        clear hK K
        refine MixH.take 22 4 _ (.agg (ipCells V x)) rfl (by kernel_rfl) (by kernel_rfl) (by kernel_rfl) (by kernel_rfl) (yields_ipr (.tmp 3) rfl (B + 1) 0 V x rfl rfl (fun A hA => ipr_all hA.2.2)) hS (fun a' ha => ?_)
        simp only [Act.put, List.setIfInBounds_toArray, List.set_cons_succ, List.set_cons_zero] at ha
        subst ha
        refine MixH.one [false, false, false, false, false, true] 21 5 _ rfl rfl (by kernel_rfl) (by kernel_rfl) (fun K hK => ?_)
        simp only [Mix.pick]
        go_wp2_with fail
        refine Calls.mono (QL.out wB) ?_
        rintro e wC ⟨rfl, bC⟩
        replace hS : Below w.heap.size w wC ∧ PfxAt wC B p ∧ IprAt wC (B + 1) V x := ⟨bthen hS.1 bC, hS.2.1.below bC, hS.2.2.below bC⟩
        clear bC
        go_wp2_with fail
        refine ⟨rfl, hK _ _ hS ?_⟩
        clear hK K
        refine MixH.takes [false, false, false, false, false, false, true, true] 19 (by kernel_rfl) (by kernel_rfl) (by decide) (by kernel_rfl) hS (fun K hK => ?_)
        simp only [Mix.pick]
        repeat (go_big_quiet_step (fail))
        refine wpQuiet_nil (hK _ ?_)
        clear hK K
        refine MixH.takes [false, false, false, false, false, false, false, false, true, true, false, true] 16 (by kernel_rfl) (by kernel_rfl) (by decide) (by kernel_rfl) hS (fun K hK => ?_)
        simp only [Mix.pick]
        repeat (go_big_quiet_step (fail))
        refine wpQuiet_nil (hK _ ?_)
        clear hK K
        refine MixH.take 15 10 _ (.int .i64 p.V) rfl (by kernel_rfl) (by kernel_rfl) (by kernel_rfl) (by kernel_rfl) (yields_int (.tmp 14) rfl ⟨B, 0, none⟩ (.int .i64 p.V) rfl rfl (fun A hA => hA.2.1.cv)) hS (fun a' ha => ?_)
        simp only [Act.put, List.setIfInBounds_toArray, List.set_cons_succ, List.set_cons_zero] at ha
        subst ha
        refine MixH.take 14 12 _ (.int .i64 V) rfl (by kernel_rfl) (by kernel_rfl) (by kernel_rfl) (by kernel_rfl) (yields_int (.tmp 16) rfl ⟨B + 1, 0, none⟩ (.int .i64 V) rfl rfl (fun A hA => hA.2.2.cell 0)) hS (fun a' ha => ?_)
        simp only [Act.put, List.setIfInBounds_toArray, List.set_cons_succ, List.set_cons_zero] at ha
        subst ha
        refine MixH.takes [false, false, false, false, false, false, false, false, false, false, false, false, false, true, true, true] 11 (by kernel_rfl) (by kernel_rfl) (by decide) (by kernel_rfl) hS (fun K hK => ?_)
        simp only [Mix.pick]
        repeat (go_big_quiet_step (fail))
        refine wpQuiet_nil (hK _ ?_)
        clear hK K
        refine MixH.take 10 16 _ (undef) rfl (by kernel_rfl) (by kernel_rfl) (by kernel_rfl) (by kernel_rfl) (.inr ⟨rfl, rfl⟩) hS (fun a' ha => ?_)
        simp only [Act.put, List.setIfInBounds_toArray, List.set_cons_succ, List.set_cons_zero] at ha
        subst ha
        refine MixH.take 9 17 _ (undef) rfl (by kernel_rfl) (by kernel_rfl) (by kernel_rfl) (by kernel_rfl) (.inr ⟨rfl, rfl⟩) hS (fun a' ha => ?_)
        simp only [Act.put, List.setIfInBounds_toArray, List.set_cons_succ, List.set_cons_zero] at ha
        subst ha
        refine MixH.take 8 18 _ (undef) rfl (by kernel_rfl) (by kernel_rfl) (by kernel_rfl) (by kernel_rfl) (.inr ⟨rfl, rfl⟩) hS (fun a' ha => ?_)
        simp only [Act.put, List.setIfInBounds_toArray, List.set_cons_succ, List.set_cons_zero] at ha
        subst ha
        refine MixH.take 7 19 _ (undef) rfl (by kernel_rfl) (by kernel_rfl) (by kernel_rfl) (by kernel_rfl) (.inr ⟨rfl, rfl⟩) hS (fun a' ha => ?_)
        simp only [Act.put, List.setIfInBounds_toArray, List.set_cons_succ, List.set_cons_zero] at ha
        subst ha
        refine MixH.take 6 20 _ (undef) rfl (by kernel_rfl) (by kernel_rfl) (by kernel_rfl) (by kernel_rfl) (.inr ⟨rfl, rfl⟩) hS (fun a' ha => ?_)
        simp only [Act.put, List.setIfInBounds_toArray, List.set_cons_succ, List.set_cons_zero] at ha
        subst ha
        refine MixH.take 5 21 _ (undef) rfl (by kernel_rfl) (by kernel_rfl) (by kernel_rfl) (by kernel_rfl) (.inr ⟨rfl, rfl⟩) hS (fun a' ha => ?_)
        simp only [Act.put, List.setIfInBounds_toArray, List.set_cons_succ, List.set_cons_zero] at ha
        subst ha
        refine MixH.take 4 22 _ (undef) rfl (by kernel_rfl) (by kernel_rfl) (by kernel_rfl) (by kernel_rfl) (.inr ⟨rfl, rfl⟩) hS (fun a' ha => ?_)
        simp only [Act.put, List.setIfInBounds_toArray, List.set_cons_succ, List.set_cons_zero] at ha
        subst ha
        refine MixH.take 3 23 _ (undef) rfl (by kernel_rfl) (by kernel_rfl) (by kernel_rfl) (by kernel_rfl) (.inr ⟨rfl, rfl⟩) hS (fun a' ha => ?_)
        simp only [Act.put, List.setIfInBounds_toArray, List.set_cons_succ, List.set_cons_zero] at ha
        subst ha
        refine MixH.take 2 24 _ (undef) rfl (by kernel_rfl) (by kernel_rfl) (by kernel_rfl) (by kernel_rfl) (.inr ⟨rfl, rfl⟩) hS (fun a' ha => ?_)
        simp only [Act.put, List.setIfInBounds_toArray, List.set_cons_succ, List.set_cons_zero] at ha
        subst ha
        refine MixH.takes [false, false, false, false, false, false, false, false, false, false, false, false, false, false, false, false, false, false, false, false, false, false, false, false, false, true, true] 0 (by kernel_rfl) (by kernel_rfl) (by decide) (by kernel_rfl) hS (fun K hK => ?_)
        simp only [Mix.pick]
        repeat (go_big_quiet_step (fail))
        refine wpQuiet_nil (hK _ ?_)
        clear hK K
        refine MixH.done (by kernel_rfl) ?_
        have HE : Hid (Below w.heap.size w wC) := hS.1
        clear hS
        go_wp2_with fail
        go_ret
        refine ⟨?_, HE.out⟩
        unfold conB
        rw [HVP.out, HVL.out, qv]
        rfl
  · have q0 : (vp == 0) = false := by simpa using h0
    have q0' : ((vp : Int) == 0) = false := by simpa using h0
    refine MixH.take 26 0 _ (.agg (pfC p)) rfl (by kernel_rfl) (by kernel_rfl) (by kernel_rfl) (by kernel_rfl) (yields_pfx (.tmp 2) rfl B 0 p rfl rfl (fun A hA => hA.2.1.all)) hS (fun a' ha => ?_)
    simp only [Act.put, List.setIfInBounds_toArray, List.set_cons_succ, List.set_cons_zero] at ha
    subst ha
    refine MixH.one [false, true] 25 1 _ rfl rfl (by kernel_rfl) (by kernel_rfl) (fun K hK => ?_)
    simp only [Mix.pick]
    go_wp2_with fail
    refine Calls.mono (QV.out wA) ?_
    rintro e wB ⟨rfl, bB⟩
    replace hS : Below w.heap.size w wB ∧ PfxAt wB B p ∧ IprAt wB (B + 1) V x := ⟨bthen hS.1 bB, hS.2.1.below bB, hS.2.2.below bB⟩
    clear bB
    go_wp2_with fail
    refine ⟨rfl, hK _ _ hS ?_⟩
    clear hK K
    refine MixH.takes [false, false, true, true] 23 (by kernel_rfl) (by kernel_rfl) (by decide) (by kernel_rfl) hS (fun K hK => ?_)
    simp only [Mix.pick]
    repeat (go_big_quiet_step (fail))
    refine wpQuiet_nil (hK _ ?_)
    clear hK K
    refine MixH.take 22 4 _ (undef) rfl (by kernel_rfl) (by kernel_rfl) (by kernel_rfl) (by kernel_rfl) (.inr ⟨rfl, rfl⟩) hS (fun a' ha => ?_)
    simp only [Act.put, List.setIfInBounds_toArray, List.set_cons_succ, List.set_cons_zero] at ha
    subst ha
    refine MixH.take 21 5 _ (undef) rfl (by kernel_rfl) (by kernel_rfl) (by kernel_rfl) (by kernel_rfl) (.inr ⟨rfl, rfl⟩) hS (fun a' ha => ?_)
    simp only [Act.put, List.setIfInBounds_toArray, List.set_cons_succ, List.set_cons_zero] at ha
    subst ha
    refine MixH.takes [false, false, false, false, false, false, true, true] 19 (by kernel_rfl) (by kernel_rfl) (by decide) (by kernel_rfl) hS (fun K hK => ?_)
    simp only [Mix.pick]
    repeat (go_big_quiet_step (fail))
    refine wpQuiet_nil (hK _ ?_)
    clear hK K
    refine MixH.take 18 8 _ (undef) rfl (by kernel_rfl) (by kernel_rfl) (by kernel_rfl) (by kernel_rfl) (.inr ⟨rfl, rfl⟩) hS (fun a' ha => ?_)
    simp only [Act.put, List.setIfInBounds_toArray, List.set_cons_succ, List.set_cons_zero] at ha
    subst ha
    refine MixH.take 17 9 _ (undef) rfl (by kernel_rfl) (by kernel_rfl) (by kernel_rfl) (by kernel_rfl) (.inr ⟨rfl, rfl⟩) hS (fun a' ha => ?_)
    simp only [Act.put, List.setIfInBounds_toArray, List.set_cons_succ, List.set_cons_zero] at ha
    subst ha
    refine MixH.take 16 10 _ (undef) rfl (by kernel_rfl) (by kernel_rfl) (by kernel_rfl) (by kernel_rfl) (.inr ⟨rfl, rfl⟩) hS (fun a' ha => ?_)
    simp only [Act.put, List.setIfInBounds_toArray, List.set_cons_succ, List.set_cons_zero] at ha
    subst ha
    refine MixH.take 15 11 _ (undef) rfl (by kernel_rfl) (by kernel_rfl) (by kernel_rfl) (by kernel_rfl) (.inr ⟨rfl, rfl⟩) hS (fun a' ha => ?_)
    simp only [Act.put, List.setIfInBounds_toArray, List.set_cons_succ, List.set_cons_zero] at ha
    subst ha
    refine MixH.take 14 12 _ (undef) rfl (by kernel_rfl) (by kernel_rfl) (by kernel_rfl) (by kernel_rfl) (.inr ⟨rfl, rfl⟩) hS (fun a' ha => ?_)
    simp only [Act.put, List.setIfInBounds_toArray, List.set_cons_succ, List.set_cons_zero] at ha
    subst ha
    refine MixH.take 13 13 _ (undef) rfl (by kernel_rfl) (by kernel_rfl) (by kernel_rfl) (by kernel_rfl) (.inr ⟨rfl, rfl⟩) hS (fun a' ha => ?_)
    simp only [Act.put, List.setIfInBounds_toArray, List.set_cons_succ, List.set_cons_zero] at ha
    subst ha
    refine MixH.takes [false, false, false, false, false, false, false, false, false, false, false, false, false, false, true, true] 11 (by kernel_rfl) (by kernel_rfl) (by decide) (by kernel_rfl) hS (fun K hK => ?_)
    simp only [Mix.pick]
    repeat (go_big_quiet_step (fail))
    refine wpQuiet_nil (hK _ ?_)
    clear hK K
    refine MixH.take 10 16 _ (undef) rfl (by kernel_rfl) (by kernel_rfl) (by kernel_rfl) (by kernel_rfl) (.inr ⟨rfl, rfl⟩) hS (fun a' ha => ?_)
    simp only [Act.put, List.setIfInBounds_toArray, List.set_cons_succ, List.set_cons_zero] at ha
    subst ha
    refine MixH.take 9 17 _ (undef) rfl (by kernel_rfl) (by kernel_rfl) (by kernel_rfl) (by kernel_rfl) (.inr ⟨rfl, rfl⟩) hS (fun a' ha => ?_)
    simp only [Act.put, List.setIfInBounds_toArray, List.set_cons_succ, List.set_cons_zero] at ha
    subst ha
    refine MixH.take 8 18 _ (undef) rfl (by kernel_rfl) (by kernel_rfl) (by kernel_rfl) (by kernel_rfl) (.inr ⟨rfl, rfl⟩) hS (fun a' ha => ?_)
    simp only [Act.put, List.setIfInBounds_toArray, List.set_cons_succ, List.set_cons_zero] at ha
    subst ha
    refine MixH.take 7 19 _ (undef) rfl (by kernel_rfl) (by kernel_rfl) (by kernel_rfl) (by kernel_rfl) (.inr ⟨rfl, rfl⟩) hS (fun a' ha => ?_)
    simp only [Act.put, List.setIfInBounds_toArray, List.set_cons_succ, List.set_cons_zero] at ha
    subst ha
    refine MixH.take 6 20 _ (undef) rfl (by kernel_rfl) (by kernel_rfl) (by kernel_rfl) (by kernel_rfl) (.inr ⟨rfl, rfl⟩) hS (fun a' ha => ?_)
    simp only [Act.put, List.setIfInBounds_toArray, List.set_cons_succ, List.set_cons_zero] at ha
    subst ha
    refine MixH.take 5 21 _ (undef) rfl (by kernel_rfl) (by kernel_rfl) (by kernel_rfl) (by kernel_rfl) (.inr ⟨rfl, rfl⟩) hS (fun a' ha => ?_)
    simp only [Act.put, List.setIfInBounds_toArray, List.set_cons_succ, List.set_cons_zero] at ha
    subst ha
    refine MixH.take 4 22 _ (undef) rfl (by kernel_rfl) (by kernel_rfl) (by kernel_rfl) (by kernel_rfl) (.inr ⟨rfl, rfl⟩) hS (fun a' ha => ?_)
    simp only [Act.put, List.setIfInBounds_toArray, List.set_cons_succ, List.set_cons_zero] at ha
    subst ha
    refine MixH.take 3 23 _ (undef) rfl (by kernel_rfl) (by kernel_rfl) (by kernel_rfl) (by kernel_rfl) (.inr ⟨rfl, rfl⟩) hS (fun a' ha => ?_)
    simp only [Act.put, List.setIfInBounds_toArray, List.set_cons_succ, List.set_cons_zero] at ha
    subst ha
    refine MixH.take 2 24 _ (undef) rfl (by kernel_rfl) (by kernel_rfl) (by kernel_rfl) (by kernel_rfl) (.inr ⟨rfl, rfl⟩) hS (fun a' ha => ?_)
    simp only [Act.put, List.setIfInBounds_toArray, List.set_cons_succ, List.set_cons_zero] at ha
    subst ha
    refine MixH.takes [false, false, false, false, false, false, false, false, false, false, false, false, false, false, false, false, false, false, false, false, false, false, false, false, false, true, true] 0 (by kernel_rfl) (by kernel_rfl) (by decide) (by kernel_rfl) hS (fun K hK => ?_)
    simp only [Mix.pick]
    repeat (go_big_quiet_step (fail))
    refine wpQuiet_nil (hK _ ?_)
    clear hK K
    refine MixH.done (by kernel_rfl) ?_
    have HE : Hid (Below w.heap.size w wB) := hS.1
    clear hS
    go_wp2_with fail
    go_ret
    refine ⟨?_, HE.out⟩
    unfold conB
    rw [HVP.out, q0]
    rfl
end Go.Proofs.YteldiggaooeeeaaGreatDoor
