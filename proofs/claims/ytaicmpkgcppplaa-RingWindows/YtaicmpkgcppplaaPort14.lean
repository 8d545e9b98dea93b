/-
  The port: Stat.
-/
import Derived.Test.YtaicmpkgcppplaaPort13
namespace Go.Proofs.Ytaicmpkgcppplaa
open Go.RowKit

/-- how many of the first k buffers are at the place j -/
def cnt (pl : Nat → Nat) : Nat → Nat → Nat
  | 0, _ => 0
  | k + 1, j => cnt pl k j + if pl k = j then 1 else 0
theorem cnt_le (pl : Nat → Nat) (k j : Nat) : cnt pl k j ≤ k := by
  induction k with
  | zero => simp [cnt]
  | succ k ih => simp only [cnt]; split <;> omega
def statV (pl : Nat → Nat) (n : Nat) : Value := .agg #[.int .i64 (cnt pl n 1), .int .i64 (cnt pl n 2), .int .i64 (cnt pl n 3), .int .i64 (cnt pl n 4), .int .i64 (cnt pl n 5)]
theorem Try.sizeStat : (Try.prog.info? 52).map (·.size) = some 5 := by kernel_rfl
set_option maxRecDepth 100000 in
set_option maxHeartbeats 1600000 in
theorem Stat_any (w : World) (P gb gf gr gt : Nat) (s : PS) (h : PortAt w P gb gf gr gt s) (hpl : ∀ i, i < s.pool → s.pl i ≤ 5) :
    Calls Try.prog 23 #[.pointer (some ⟨P, 0, none⟩)] w fun e w' => e = .returned (statV s.pl s.pool) ∧ Below w.heap.size w w' := by
  have hB := h.cB
  have hp2 := h.p2
  have hPl := h.Pl
  have HP : Hid _ := h
  obtain ⟨N, hN⟩ : ∃ N, N = s.pool := ⟨_, rfl⟩
  have HN : Hid (N = s.pool) := hN
  rw [← hN] at hB hp2 hpl ⊢
  clear h hN
  go_enter Try.func23, Try.ntmps23
  go_upto_region 2 with fail
  obtain ⟨R, hR⟩ : ∃ R, R = w.heap.size := ⟨_, rfl⟩
  obtain ⟨W, hW⟩ : ∃ W, W = (w.alloc (.cells #[.int .i64 0, .int .i64 0, .int .i64 0, .int .i64 0, .int .i64 0] 52)).alloc (.cells #[.int .i64 0, .int .i64 0, .int .i64 0, .int .i64 0, .int .i64 0, .int .i64 0] 83) := ⟨_, rfl⟩
  have bel : Below w.heap.size w W := by rw [hW]; exact ((Below.refl _ _).alloc (Nat.le_refl _) _).alloc (by simp) _
  have hg0 : W.heap[R]? = some (.cells #[.int .i64 0, .int .i64 0, .int .i64 0, .int .i64 0, .int .i64 0] 52) := by
    rw [hW, hR, heap_alloc_old _ _ (by simp)]
    exact heap_alloc_new _ _
  have hc0 : W.heap[R + 1]? = some (.cells #[.int .i64 0, .int .i64 0, .int .i64 0, .int .i64 0, .int .i64 0, .int .i64 0] 83) := by
    rw [hW, hR]
    have := heap_alloc_new (w.alloc (.cells #[.int .i64 0, .int .i64 0, .int .i64 0, .int .i64 0, .int .i64 0] 52)) (.cells #[.int .i64 0, .int .i64 0, .int .i64 0, .int .i64 0, .int .i64 0, .int .i64 0] 83)
    rwa [World.size_alloc] at this
  rw [← hW, ← hR]
  have HR : Hid (R = w.heap.size) := hR
  have hB1 : W.cell? ⟨P, 0, none⟩ = some (.slice (some ⟨gb, 0, none⟩) N N) := (bel.cell hPl).trans hB
  clear hW hR
  go_wp2
  go_loopw [10] (fun ix wr => ∃ k : Nat, k ≤ N ∧ ix = .int .i64 k ∧ Below w.heap.size w wr ∧ R + 1 < wr.heap.size ∧ wr.heap[R]? = some (.cells #[.int .i64 0, .int .i64 0, .int .i64 0, .int .i64 0, .int .i64 0] 52) ∧ (∀ j, j < 6 → wr.cell? ⟨R + 1, j, none⟩ = some (.int .i64 (cnt s.pl k j))) ∧ ∀ j, wr.frozen? ⟨R + 1, j, none⟩ = false) (fun ix _ => N - (intOf ix).toNat)
  case atStart =>
    refine ⟨0, Nat.zero_le _, rfl, bel, ?_, hg0, fun j hj => ?_, fun j => by simp [World.frozen?, hc0]⟩
    · have e : W.cell? ⟨R + 1, 0, none⟩ = some (.int .i64 0) := by simp [World.cell?, hc0]
      exact World.block_lt_of_cell? W ⟨R + 1, 0, none⟩ e
    · have : j = 0 ∨ j = 1 ∨ j = 2 ∨ j = 3 ∨ j = 4 ∨ j = 5 := by omega
      rcases this with rfl | rfl | rfl | rfl | rfl | rfl <;> simp [World.cell?, hc0, cnt]
  case round =>
    obtain ⟨k, hk, rfl, hbel, hsz, hg, hcs, hfz⟩ := hrel
    clear bel hg0 hc0 hB1
    by_cases hlt : k < N
    · have hr := HP.out.below hbel
      have hBr := hr.cB
      rw [← HN.out] at hBr
      have cr := hr.b0 k (by have := HN.out; omega)
      have hp5 := hpl k hlt
      obtain ⟨x, hx⟩ : ∃ x, x = s.pl k := ⟨_, rfl⟩
      rw [← hx] at cr hp5
      have cx := hcs x (by omega)
      have fx := hfz x
      obtain ⟨c, hc⟩ : ∃ c, c = cnt s.pl k x := ⟨_, rfl⟩
      have hcle : c ≤ k := by rw [hc]; exact cnt_le _ _ _
      rw [← hc] at cx
      have wq : IntKind.i64.wrap ((c : Int) + 1) = (c : Int) + 1 := i64_small _ (by omega) (by omega)
      have x0 : (0 : Int) ≤ (x : Int) := by omega
      have x1 : (x : Int) < 6 := by omega
      have x2 : ((x : Int)).toNat = x := by omega
      have kk : Ch (fun q => q = R + 1) wr (wr.setCell ⟨R + 1, x, none⟩ (.int .i64 ((c : Int) + 1))) := (Ch.refl _ wr).set _ _ rfl
      have HF : Hid (Below w.heap.size w (wr.setCell ⟨R + 1, x, none⟩ (.int .i64 ((c : Int) + 1))) ∧ R + 1 < (wr.setCell ⟨R + 1, x, none⟩ (.int .i64 ((c : Int) + 1))).heap.size ∧ (wr.setCell ⟨R + 1, x, none⟩ (.int .i64 ((c : Int) + 1))).heap[R]? = some (.cells #[.int .i64 0, .int .i64 0, .int .i64 0, .int .i64 0, .int .i64 0] 52) ∧ (∀ j, j < 6 → (wr.setCell ⟨R + 1, x, none⟩ (.int .i64 ((c : Int) + 1))).cell? ⟨R + 1, j, none⟩ = some (.int .i64 (cnt s.pl (k + 1) j))) ∧ ∀ j, (wr.setCell ⟨R + 1, x, none⟩ (.int .i64 ((c : Int) + 1))).frozen? ⟨R + 1, j, none⟩ = false) := by
        refine ⟨hbel.trans (kk.below (fun q e => by have := HR.out; omega) hbel.size), Nat.lt_of_lt_of_le hsz kk.size, (kk.block R (by omega) (by omega)).trans hg, fun j hj => ?_, fun j => by rw [World.frozen?_setCell]; exact hfz j⟩
        by_cases e : j = x
        · subst e
          rw [World.cell?_setCell_same _ _ _ cx]
          simp [cnt, ← hx, hc]
        · rw [gb_other _ _ _ _ _ e, hcs j hj]
          rw [cnt, ← hx, if_neg (fun e' => e e'.symm), Nat.add_zero]
      clear hx hc kk hr hcs hfz hg hbel hsz
      go_wp2
      go_roundw
      case rel =>
        obtain ⟨f1, f2, f3, f4, f5⟩ := HF.out
        exact ⟨k + 1, by omega, by go_num, f1, f2, f3, f4, f5⟩
      case measure => simp [intOf]; omega
    · obtain rfl : k = N := by omega
      have a1 := hcs 1 (by decide)
      have a2 := hcs 2 (by decide)
      have a3 := hcs 3 (by decide)
      have a4 := hcs 4 (by decide)
      have a5 := hcs 5 (by decide)
      obtain ⟨n1, h1⟩ : ∃ n, n = cnt s.pl k 1 := ⟨_, rfl⟩
      obtain ⟨n2, h2⟩ : ∃ n, n = cnt s.pl k 2 := ⟨_, rfl⟩
      obtain ⟨n3, h3⟩ : ∃ n, n = cnt s.pl k 3 := ⟨_, rfl⟩
      obtain ⟨n4, h4⟩ : ∃ n, n = cnt s.pl k 4 := ⟨_, rfl⟩
      obtain ⟨n5, h5⟩ : ∃ n, n = cnt s.pl k 5 := ⟨_, rfl⟩
      rw [← h1] at a1
      rw [← h2] at a2
      rw [← h3] at a3
      rw [← h4] at a4
      rw [← h5] at a5
      have HV : Hid (statV s.pl k = .agg #[.int .i64 n1, .int .i64 n2, .int .i64 n3, .int .i64 n4, .int .i64 n5]) := by rw [statV, ← h1, ← h2, ← h3, ← h4, ← h5]; exact rfl
      have fz : ∀ j, wr.frozen? ⟨R, j, none⟩ = false := fun j => by simp [World.frozen?, hg]
      have f0 := fz 0
      have f1 := fz 1
      have f2 := fz 2
      have f3 := fz 3
      have f4 := fz 4
      have b0 : wr.cell? ⟨R, 0, none⟩ = some (.int .i64 0) := by simp [World.cell?, hg]
      have b1 : wr.cell? ⟨R, 1, none⟩ = some (.int .i64 0) := by simp [World.cell?, hg]
      have b2 : wr.cell? ⟨R, 2, none⟩ = some (.int .i64 0) := by simp [World.cell?, hg]
      have b3 : wr.cell? ⟨R, 3, none⟩ = some (.int .i64 0) := by simp [World.cell?, hg]
      have b4 : wr.cell? ⟨R, 4, none⟩ = some (.int .i64 0) := by simp [World.cell?, hg]
      have G0 := heap_setCell_same wr R 0 _ _ (.int .i64 (n1 : Int)) hg
      have G1 := heap_setCell_same _ R 1 _ _ (.int .i64 (n2 : Int)) G0
      have G2 := heap_setCell_same _ R 2 _ _ (.int .i64 (n3 : Int)) G1
      have G3 := heap_setCell_same _ R 3 _ _ (.int .i64 (n4 : Int)) G2
      have G4 := heap_setCell_same _ R 4 _ _ (.int .i64 (n5 : Int)) G3
      have kk : Ch (fun q => q = R) wr (((((wr.setCell ⟨R, 0, none⟩ (.int .i64 (n1 : Int))).setCell ⟨R, 1, none⟩ (.int .i64 (n2 : Int))).setCell ⟨R, 2, none⟩ (.int .i64 (n3 : Int))).setCell ⟨R, 3, none⟩ (.int .i64 (n4 : Int))).setCell ⟨R, 4, none⟩ (.int .i64 (n5 : Int))) := (((((Ch.refl (fun q => q = R) wr).set ⟨R, 0, none⟩ _ rfl).set ⟨R, 1, none⟩ _ rfl).set ⟨R, 2, none⟩ _ rfl).set ⟨R, 3, none⟩ _ rfl).set ⟨R, 4, none⟩ _ rfl
      have HB : Hid (Below w.heap.size w _) := hbel.trans (kk.below (fun x e => by have := HR.out; omega) hbel.size)
      have HG : Hid _ := G4
      clear h1 h2 h3 h4 h5 hcs hfz hg fz G0 G1 G2 G3 G4 kk hbel
      go_wp2
      (try simp only [Exit.inBlock, Exit.then])
      refine bodyPost_ret (v := .agg #[.int .i64 n1, .int .i64 n2, .int .i64 n3, .int .i64 n4, .int .i64 n5]) ?_ rfl ?_
      · exact results_cell_row rfl _ _ R 52 _ _ _ rfl HG.out Try.underlying52 rfl Try.sizeStat
      exact ⟨by rw [HV.out], HB.out⟩
end Go.Proofs.Ytaicmpkgcppplaa
