/-
  The port: newLine.
-/
import Derived.Test.YtaicmpkgcppplaaPort11
namespace Go.Proofs.Ytaicmpkgcppplaa
open Go.RowKit

theorem Try.sizeLine : (Try.prog.info? 71).map (·.size) = some 3 := by kernel_rfl
set_option maxRecDepth 100000 in
set_option maxHeartbeats 800000 in
theorem newLine_any (w : World) (N : Nat) (hN : N ≤ 100000) :
    Calls Try.prog 39 #[.int .i64 N] w fun e w' => ∃ g, e = .returned (.agg #[.slice (some ⟨g, 0, none⟩) N N, .int .i64 0, .int .i64 0]) ∧
      w'.ownsRow w.heap.size 3 1 (.slice (some ⟨g, 0, none⟩) N N) N (nV (List.replicate N 0)) ∧ Below w.heap.size w w' := by
  obtain ⟨i0, hii, hz0, hz1, hz2⟩ := info_parts Try.infoInt
  go_enter Try.func39, Try.ntmps39
  go_wp2_with (first | (at_make; refine wpList_make_full _ rfl _ _ 55 rfl (w.heap.size + 1) 3 i0 (.int .i64 0) 1 Try.underlying55 hii hz0 hz1 .i64 .i64 _ _ N rfl rfl rfl rfl (by rw [hz2]; omega) (by unfold maxLen; omega) (by simp) ?_))
  intro w1 hown hgr
  rw [toList_madeCells_one] at hown
  obtain ⟨R, hR⟩ : ∃ R, R = w.heap.size := ⟨_, rfl⟩
  have hg1 : w1.heap[R]? = some (.cells #[.slice none 0 0, .int .i64 0, .int .i64 0] 71) := by
    rw [hR, hgr.block w.heap.size (by simp) (by simp)]
    exact heap_alloc_new _ _
  have hb1 : Below w.heap.size w w1 := ((Below.refl _ _).alloc (Nat.le_refl _) _).grown hgr (by simp) (by intro k hk; cases hk)
  rw [← hR]
  have HR : Hid _ := hR
  clear hR hgr
  have f0 : w1.frozen? ⟨R, 0, none⟩ = false := by simp [World.frozen?, hg1]
  have f1 : w1.frozen? ⟨R, 1, none⟩ = false := by simp [World.frozen?, hg1]
  have f2 : w1.frozen? ⟨R, 2, none⟩ = false := by simp [World.frozen?, hg1]
  have c0 : w1.cell? ⟨R, 0, none⟩ = some (.slice none 0 0) := by simp [World.cell?, hg1]
  have c1 : w1.cell? ⟨R, 1, none⟩ = some (.int .i64 0) := by simp [World.cell?, hg1]
  have c2 : w1.cell? ⟨R, 2, none⟩ = some (.int .i64 0) := by simp [World.cell?, hg1]
  have G0 := heap_setCell_same w1 R 0 _ _ (.slice (some ⟨R + 1, 0, none⟩) N N) hg1
  have G1 := heap_setCell_same _ R 1 _ _ (.int .i64 0) G0
  have hg2 := heap_setCell_same _ R 2 _ _ (.int .i64 0) G1
  have k2 : Ch (fun q => q = R) w1 (((w1.setCell ⟨R, 0, none⟩ (.slice (some ⟨R + 1, 0, none⟩) N N)).setCell ⟨R, 1, none⟩ (.int .i64 0)).setCell ⟨R, 2, none⟩ (.int .i64 0)) := (((Ch.refl (fun q => q = R) w1).set ⟨R, 0, none⟩ _ rfl).set ⟨R, 1, none⟩ _ rfl).set ⟨R, 2, none⟩ _ rfl
  have HF : Hid ((((w1.setCell ⟨R, 0, none⟩ (.slice (some ⟨R + 1, 0, none⟩) N N)).setCell ⟨R, 1, none⟩ (.int .i64 0)).setCell ⟨R, 2, none⟩ (.int .i64 0)).ownsRow w.heap.size 3 1 (.slice (some ⟨R + 1, 0, none⟩) N N) N (nV (List.replicate N 0))) := by
    have e := HR.out
    rw [← e] at hown
    have := owns_mono hown (show w.heap.size ≤ R + 1 by omega)
    rw [show nV (List.replicate N 0) = List.replicate N (.int .i64 0) from by simp [nV]]
    exact k2.owns this (fun q hq e => by simp [Value.ownBlock] at hq; omega)
  have HB : Hid (Below w.heap.size w (((w1.setCell ⟨R, 0, none⟩ (.slice (some ⟨R + 1, 0, none⟩) N N)).setCell ⟨R, 1, none⟩ (.int .i64 0)).setCell ⟨R, 2, none⟩ (.int .i64 0))) := hb1.trans (k2.below (fun x e => by have := HR.out; omega) hb1.size)
  have HG : Hid _ := hg2
  clear k2 hown hb1 hg1 G0 G1 hg2
  go_wp2
  (try simp only [Exit.inBlock, Exit.then])
  refine bodyPost_ret (v := .agg #[.slice (some ⟨R + 1, 0, none⟩) N N, .int .i64 0, .int .i64 0]) ?_ rfl ?_
  · exact results_cell_row rfl _ _ R 71 _ _ _ rfl HG.out Try.underlying71 rfl Try.sizeLine
  exact ⟨R + 1, rfl, HF.out, HB.out⟩
end Go.Proofs.Ytaicmpkgcppplaa
