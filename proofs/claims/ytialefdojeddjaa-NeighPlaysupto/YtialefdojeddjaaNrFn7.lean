/-
  Layer 15's reference: older.
-/
import Derived.Test.YtialefdojeddjaaNrFn6
namespace Go.Proofs.Ytialefdojeddjaa
open Go.RowKit Go.Maps

/-- an entry of the reference one tick older -/
def roldN (c : CF) (n : EN) : EN := if n.st = 2 ∧ agI n = c.fr then { n with st := 3, ag := 0 } else { n with ag := agI n }
theorem RenAt.set {w : World} {O : Nat} {e e' : RE} (h : RenAt w O e) (i : Nat) (v : Value) (hC : (reC e).setIfInBounds i v = reC e') : RenAt (w.setCell ⟨O, i, none⟩ v) O e' := by
  unfold RenAt at h ⊢
  rw [heap_setCell_same w O i _ _ v h, hC]
set_option maxHeartbeats 3200000 in
set_option maxRecDepth 100000 in
theorem rolder_any (rc : RC) (r : RE) (w : World) (h0 : 0 ≤ r.n.ag) (h1 : r.n.ag ≤ 1048576) : Calls Try.prog 97 #[.agg (rcC rc), .agg (reC r)] w fun e w' => e = .returned (.agg (reC ⟨roldN rc.c r.n, r.la, r.lc⟩)) ∧ Below w.heap.size w w' := by
  have hi := rch_new w rc
  have hi' := ren_new (w.alloc (.cells (rcC rc) 87)) r
  rw [World.size_alloc] at hi'
  obtain ⟨Y, hY⟩ : ∃ Y, Y = (w.alloc (.cells (rcC rc) 87)).alloc (.cells (reC r) 163) := ⟨_, rfl⟩
  have bY : Below w.heap.size w Y := by rw [hY]; exact ((Below.refl _ _).alloc (Nat.le_refl _) _).alloc (by simp) _
  have hi2 : RchAt Y w.heap.size rc := by rw [hY]; exact hi.below ((Below.refl _ _).alloc (Nat.le_refl _) _)
  rw [← hY] at hi'
  have hsz : Y.heap.size = w.heap.size + 2 := by rw [hY, World.size_alloc, World.size_alloc]
  obtain ⟨B, hB⟩ : ∃ B, B = w.heap.size := ⟨_, rfl⟩
  rw [← hB] at hi2 hi' hsz
  obtain ⟨CI, hCI⟩ : ∃ C, C = rcC rc := ⟨_, rfl⟩
  obtain ⟨CM, hCM⟩ : ∃ C, C = reC r := ⟨_, rfl⟩
  rw [← hCI, ← hCM] at hY ⊢
  obtain ⟨Z, hZ⟩ : ∃ Z, Z = Y.alloc (.cells (reC rez) 163) := ⟨_, rfl⟩
  have bZ : Below Y.heap.size Y Z := by rw [hZ]; exact (Below.refl _ _).alloc (Nat.le_refl _) _
  have HZ : Hid (RchAt Z B rc ∧ RenAt Z (B + 1) r ∧ RenAt Z (B + 2) rez ∧ Below w.heap.size w Z) := ⟨hi2.below bZ, hi'.below bZ, by rw [hZ, ← hsz]; exact ren_new Y rez, bthen bY bZ⟩
  have HW : Hid ((w.alloc (.cells CI 87)).alloc (.cells CM 163) = Y ∧ w.heap.size = B ∧ Y.heap.size = B + 2 ∧ Y.alloc (.cells (reC rez) 163) = Z) := ⟨hY.symm, hB.symm, hsz, hZ.symm⟩
  obtain ⟨st, hst⟩ : ∃ st, st = r.n.st := ⟨_, rfl⟩
  obtain ⟨ag, hag⟩ : ∃ ag, ag = r.n.ag := ⟨_, rfl⟩
  obtain ⟨RN, hRN⟩ : ∃ RN, RN = roldN rc.c r.n := ⟨_, rfl⟩
  rw [← hRN]
  have HV : Hid (st = r.n.st ∧ ag = r.n.ag ∧ RN = roldN rc.c r.n) := ⟨hst, hag, hRN⟩
  have c24 : Z.cell? ⟨B + 1, 24, none⟩ = some (.int .i64 st) := by rw [HZ.out.2.1.cell 24, hst]; rfl
  have c25 : Z.cell? ⟨B + 1, 25, none⟩ = some (.int .i64 ag) := by rw [HZ.out.2.1.cell 25, hag]; rfl
  have f25 := HZ.out.2.1.fz 25
  have w1 : IntKind.i64.wrap (ag + 1) = ag + 1 := by rw [IntKind.wrap_i64]; omega
  clear hi hi' hY bY hi2 hB hCI hCM hZ bZ hsz h0 h1 hst hag hRN
  go_enter Try.func97, Try.ntmps97
  go_upto_region 1 with (first | (rw [HW.out.1]; refine wpList_alloc_ren rfl rfl ?_; rw [HW.out.2.2.1, HW.out.2.2.2]; simp only [Act.put, List.setIfInBounds_toArray, List.set_cons_succ, List.set_cons_zero]))
  rw [HW.out.2.1]
  by_cases hnc : st = 3 ∧ ¬ ag < 1048576
  · have q1 : (st != 3) = false := by simpa using hnc.1
    have q2 : decide (ag < 1048576) = false := by rw [decide_eq_false_iff_not]; exact hnc.2
    have q3 : (st == 2) = false := by rw [hnc.1]; rfl
    have HR : Hid (RN = r.n) := by
      have h := HV.out
      show RN = r.n
      rw [h.2.2]
      unfold roldN agI
      rw [if_neg (by rw [← h.1]; omega), if_pos (by rw [← h.1, ← h.2.1]; exact hnc)]
    clear hnc
    go_wp2_with (first | (refine wpList_load_ren (.tmp 3) rfl (B + 1) r rfl HZ.out.2.1 rfl ?_) | (refine wpList_store_ren (.tmp 4) (.tmp 38) rfl rfl (B + 2) rez r rfl rfl HZ.out.2.2.1 rfl ?_))
    intro w9 h9 k9
    have H9 : Hid (RenAt w9 (B + 2) r ∧ Below w.heap.size w w9) := ⟨h9, HZ.out.2.2.2.trans (k9.below (fun q e => by have e' : q = B + 2 := e; have := HW.out.2.1; omega) HZ.out.2.2.2.size)⟩
    clear h9 k9
    go_wp2_with fail
    refine bodyPost_ret (results_ren rfl _ _ (B + 2) _ rfl H9.out.1) rfl ?_
    refine ⟨?_, H9.out.2⟩
    rw [HR.out]
  · have HX0 : Hid (agI r.n = ag + 1) := by
      have h := HV.out
      show agI r.n = ag + 1
      unfold agI
      rw [if_neg (by rw [← h.1, ← h.2.1]; exact hnc), h.2.1]
    have hpk : (st != 3) = true ∨ ((st != 3) = false ∧ decide (ag < 1048576) = true) := by
      by_cases h3 : st = 3
      · exact .inr ⟨by simpa using h3, by rw [decide_eq_true_eq]; exact Decidable.byContradiction (fun h => hnc ⟨h3, h⟩)⟩
      · exact .inl (by simpa using h3)
    obtain ⟨X, hX⟩ : ∃ X, X = Z.setCell ⟨B + 1, 25, none⟩ (.int .i64 (ag + 1)) := ⟨_, rfl⟩
    have kX : Ch (fun q => q = B + 1) Z X := by rw [hX]; exact (Ch.refl (fun q => q = B + 1) Z).set _ _ rfl
    have HX : Hid (RchAt X B rc ∧ RenAt X (B + 1) ⟨{ r.n with ag := ag + 1 }, r.la, r.lc⟩ ∧ RenAt X (B + 2) rez ∧ Below w.heap.size w X) := ⟨HZ.out.1.ch kX (by omega), by rw [hX]; exact HZ.out.2.1.set 25 _ rfl, HZ.out.2.2.1.ch kX (by omega), HZ.out.2.2.2.trans (kX.below (fun q e => by have e' : q = B + 1 := e; have := HW.out.2.1; omega) HZ.out.2.2.2.size)⟩
    have HXE : Hid (Z.setCell ⟨B + 1, 25, none⟩ (.int .i64 (ag + 1)) = X) := hX.symm
    clear hX kX hnc
    go_upto_region 1 with fail
    go_cut [14] (fun v wx => v = .bool true ∧ wx = Z)
    case first =>
      rcases hpk with q1 | ⟨q1, q2⟩
      · go_wp2_with fail
        go_meet
        exact ⟨rfl, rfl⟩
      · go_wp2_with fail
        go_meet
        exact ⟨rfl, rfl⟩
    case rest =>
      obtain ⟨rfl, rfl⟩ := hcut
      clear hpk
      go_upto_region 3 with fail
      rw [HXE.out]
      have d24 : X.cell? ⟨B + 1, 24, none⟩ = some (.int .i64 st) := by rw [HX.out.2.1.cell 24, HV.out.1]; rfl
      have d25 : X.cell? ⟨B + 1, 25, none⟩ = some (.int .i64 (ag + 1)) := by rw [HX.out.2.1.cell 25]; rfl
      have d4 : X.cell? ⟨B, 4, none⟩ = some (.int .i64 rc.c.fr) := HX.out.1.cell 4
      have g24 := HX.out.2.1.fz 24
      have g25 := HX.out.2.1.fz 25
      clear c24 c25 f25
      by_cases h2 : st = 2
      · have q3 : (st == 2) = true := by simpa using h2
        by_cases hf : ag + 1 = rc.c.fr
        · have q4 : (ag + 1 == rc.c.fr) = true := by simpa using hf
          have HR : Hid (RN = { r.n with st := 3, ag := 0 }) := by
            have h := HV.out
            show RN = _
            rw [h.2.2]
            unfold roldN
            rw [if_pos ⟨by rw [← h.1]; exact h2, by rw [HX0.out]; exact hf⟩]
          have HXX : Hid (RchAt ((X.setCell ⟨B + 1, 24, none⟩ (.int .i64 3)).setCell ⟨B + 1, 25, none⟩ (.int .i64 0)) B rc ∧ RenAt ((X.setCell ⟨B + 1, 24, none⟩ (.int .i64 3)).setCell ⟨B + 1, 25, none⟩ (.int .i64 0)) (B + 1) ⟨{ r.n with st := 3, ag := 0 }, r.la, r.lc⟩ ∧ RenAt ((X.setCell ⟨B + 1, 24, none⟩ (.int .i64 3)).setCell ⟨B + 1, 25, none⟩ (.int .i64 0)) (B + 2) rez ∧ Below w.heap.size w ((X.setCell ⟨B + 1, 24, none⟩ (.int .i64 3)).setCell ⟨B + 1, 25, none⟩ (.int .i64 0))) := by
            have kk : Ch (fun q => q = B + 1) X ((X.setCell ⟨B + 1, 24, none⟩ (.int .i64 3)).setCell ⟨B + 1, 25, none⟩ (.int .i64 0)) := ((Ch.refl (fun q => q = B + 1) X).set _ _ rfl).set _ _ rfl
            refine ⟨HX.out.1.ch kk (by omega), ?_, HX.out.2.2.1.ch kk (by omega), HX.out.2.2.2.trans (kk.below (fun q e => by have e' : q = B + 1 := e; have := HW.out.2.1; omega) HX.out.2.2.2.size)⟩
            exact RenAt.set (e := ⟨{ r.n with st := 3, ag := ag + 1 }, r.la, r.lc⟩) (HX.out.2.1.set 24 _ rfl) 25 _ rfl
          clear h2 hf
          go_wp2_with (first | (refine wpList_load_ren (.tmp 3) rfl (B + 1) ⟨{ r.n with st := 3, ag := 0 }, r.la, r.lc⟩ rfl HXX.out.2.1 rfl ?_) | (refine wpList_store_ren (.tmp 4) (.tmp 38) rfl rfl (B + 2) rez ⟨{ r.n with st := 3, ag := 0 }, r.la, r.lc⟩ rfl rfl HXX.out.2.2.1 rfl ?_))
          intro w9 h9 k9
          have H9 : Hid (RenAt w9 (B + 2) ⟨{ r.n with st := 3, ag := 0 }, r.la, r.lc⟩ ∧ Below w.heap.size w w9) := ⟨h9, HXX.out.2.2.2.trans (k9.below (fun q e => by have e' : q = B + 2 := e; have := HW.out.2.1; omega) HXX.out.2.2.2.size)⟩
          clear h9 k9
          go_wp2_with fail
          refine bodyPost_ret (results_ren rfl _ _ (B + 2) _ rfl H9.out.1) rfl ?_
          refine ⟨?_, H9.out.2⟩
          rw [HR.out]
        · have q4 : (ag + 1 == rc.c.fr) = false := by simpa using hf
          have HR : Hid (RN = { r.n with ag := ag + 1 }) := by
            have h := HV.out
            show RN = _
            rw [h.2.2]
            unfold roldN
            rw [if_neg (by rw [HX0.out]; exact fun q => hf q.2), HX0.out]
          clear h2 hf
          go_wp2_with (first | (refine wpList_load_ren (.tmp 3) rfl (B + 1) ⟨{ r.n with ag := ag + 1 }, r.la, r.lc⟩ rfl HX.out.2.1 rfl ?_) | (refine wpList_store_ren (.tmp 4) (.tmp 38) rfl rfl (B + 2) rez ⟨{ r.n with ag := ag + 1 }, r.la, r.lc⟩ rfl rfl HX.out.2.2.1 rfl ?_))
          intro w9 h9 k9
          have H9 : Hid (RenAt w9 (B + 2) ⟨{ r.n with ag := ag + 1 }, r.la, r.lc⟩ ∧ Below w.heap.size w w9) := ⟨h9, HX.out.2.2.2.trans (k9.below (fun q e => by have e' : q = B + 2 := e; have := HW.out.2.1; omega) HX.out.2.2.2.size)⟩
          clear h9 k9
          go_wp2_with fail
          refine bodyPost_ret (results_ren rfl _ _ (B + 2) _ rfl H9.out.1) rfl ?_
          refine ⟨?_, H9.out.2⟩
          rw [HR.out]
      · have q3 : (st == 2) = false := by simpa using h2
        have HR : Hid (RN = { r.n with ag := ag + 1 }) := by
          have h := HV.out
          show RN = _
          rw [h.2.2]
          unfold roldN
          rw [if_neg (by rw [← h.1]; exact fun q => h2 q.1), HX0.out]
        clear h2
        go_wp2_with (first | (refine wpList_load_ren (.tmp 3) rfl (B + 1) ⟨{ r.n with ag := ag + 1 }, r.la, r.lc⟩ rfl HX.out.2.1 rfl ?_) | (refine wpList_store_ren (.tmp 4) (.tmp 38) rfl rfl (B + 2) rez ⟨{ r.n with ag := ag + 1 }, r.la, r.lc⟩ rfl rfl HX.out.2.2.1 rfl ?_))
        intro w9 h9 k9
        have H9 : Hid (RenAt w9 (B + 2) ⟨{ r.n with ag := ag + 1 }, r.la, r.lc⟩ ∧ Below w.heap.size w w9) := ⟨h9, HX.out.2.2.2.trans (k9.below (fun q e => by have e' : q = B + 2 := e; have := HW.out.2.1; omega) HX.out.2.2.2.size)⟩
        clear h9 k9
        go_wp2_with fail
        refine bodyPost_ret (results_ren rfl _ _ (B + 2) _ rfl H9.out.1) rfl ?_
        refine ⟨?_, H9.out.2⟩
        rw [HR.out]
end Go.Proofs.Ytialefdojeddjaa
