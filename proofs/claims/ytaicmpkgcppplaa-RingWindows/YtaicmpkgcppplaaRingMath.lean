/-
  How many buffers are at a place.
-/
import Derived.Test.YtaicmpkgcppplaaPort17
namespace Go.Proofs.Ytaicmpkgcppplaa
open Go.RowKit

theorem nodup_sub : ∀ (a b : List Nat), a.Nodup → (∀ x ∈ a, x ∈ b) → a.length ≤ b.length
  | [], _, _, _ => Nat.zero_le _
  | x :: a, b, hd, hs => by
    have hx := hs x (by simp)
    have h1 := nodup_sub a (b.erase x) (List.nodup_cons.1 hd).2 (fun y hy => by
      have hne : y ≠ x := fun e => (List.nodup_cons.1 hd).1 (e ▸ hy)
      exact (List.mem_erase_of_ne hne).2 (hs y (by simp [hy])))
    rw [List.length_erase_of_mem hx] at h1
    have : 0 < b.length := List.length_pos_of_mem hx
    simp only [List.length_cons]
    omega
theorem cnt_filter (pl : Nat → Nat) (j : Nat) : ∀ n, cnt pl n j = ((List.range n).filter (fun i => decide (pl i = j))).length
  | 0 => rfl
  | n + 1 => by
    rw [cnt, cnt_filter pl j n, List.range_succ, List.filter_append, List.length_append]
    by_cases h : pl n = j
    · simp [h]
    · simp [h]
theorem cnt_sub (pl : Nat → Nat) (n j : Nat) (l : List Nat) (h : ∀ i, i < n → pl i = j → i ∈ l) : cnt pl n j ≤ l.length := by
  rw [cnt_filter]
  refine nodup_sub _ _ (List.nodup_range.filter _) (fun x hx => ?_)
  simp at hx
  exact h x hx.1 hx.2
theorem cnt_zero (pl : Nat → Nat) (j : Nat) : ∀ n, (∀ i, i < n → pl i ≠ j) → cnt pl n j = 0
  | 0, _ => rfl
  | n + 1, h => by rw [cnt, cnt_zero pl j n (fun i hi => h i (by omega)), if_neg (h n (by omega))]
theorem cnt_all (pl : Nat → Nat) (j : Nat) : ∀ n, (∀ i, i < n → pl i = j) → cnt pl n j = n
  | 0, _ => rfl
  | n + 1, h => by rw [cnt, cnt_all pl j n (fun i hi => h i (by omega)), if_pos (h n (by omega))]
theorem PInv.rxs {s : PS} (h : PInv s) : cnt s.pl s.pool 2 + cnt s.pl s.pool 3 ≤ s.rx.length := by
  have h2 := cnt_sub s.pl s.pool 2 (s.rx.drop s.filled) (fun i hi e => (h.p2 i hi).1 e)
  have h3 := cnt_sub s.pl s.pool 3 (s.rx.take s.filled) (fun i hi e => (h.p3 i hi).1 e)
  have := h.fl
  simp at h2 h3
  omega
theorem PInv.txs {s : PS} (h : PInv s) : cnt s.pl s.pool 5 ≤ s.tx.length := cnt_sub s.pl s.pool 5 s.tx (fun i hi e => (h.p5 i hi).1 e)
theorem newK_stat (rx tx pool size : Nat) : statV (newK rx tx pool size pool).pl pool = .agg #[.int .i64 pool, .int .i64 0, .int .i64 0, .int .i64 0, .int .i64 0] := by
  have h : ∀ i, i < pool → (newK rx tx pool size pool).pl i = 1 := fun i hi => if_pos hi
  rw [statV, cnt_all _ 1 pool h, cnt_zero _ 2 pool (fun i hi e => by rw [h i hi] at e; cases e), cnt_zero _ 3 pool (fun i hi e => by rw [h i hi] at e; cases e), cnt_zero _ 4 pool (fun i hi e => by rw [h i hi] at e; cases e), cnt_zero _ 5 pool (fun i hi e => by rw [h i hi] at e; cases e)]
  rfl
/-- at how many of the first n places two lists part -/
def dcnt (f g : Nat → Nat) : Nat → Nat
  | 0 => 0
  | n + 1 => dcnt f g n + if f n = g n then 0 else 1
theorem dcnt_le (f g : Nat → Nat) : ∀ n, dcnt f g n ≤ n
  | 0 => Nat.le_refl _
  | n + 1 => by have := dcnt_le f g n; rw [dcnt]; split <;> omega
theorem dcnt_zero (f g : Nat → Nat) : ∀ n, (∀ i, i < n → f i = g i) → dcnt f g n = 0
  | 0, _ => rfl
  | n + 1, h => by rw [dcnt, dcnt_zero f g n (fun i hi => h i (by omega)), if_pos (h n (by omega))]
theorem dcnt_one (f g : Nat → Nat) (i0 : Nat) (h : ∀ i, i ≠ i0 → f i = g i) : ∀ n, dcnt f g n ≤ 1
  | 0 => Nat.zero_le _
  | n + 1 => by
    rw [dcnt]
    by_cases e : n = i0
    · subst e
      rw [dcnt_zero f g n (fun i hi => h i (by omega))]
      split <;> omega
    · rw [if_pos (h n e)]
      exact dcnt_one f g i0 h n

set_option maxRecDepth 100000 in
set_option maxHeartbeats 3200000 in
theorem together_any (w : World) (P gb gf gr gt : Nat) (s : PS) (h : PortAt w P gb gf gr gt s) (hi : PInv s) :
    Calls Try.prog 25 #[.pointer (some ⟨P, 0, none⟩), .int .i64 s.pool] w fun e w' => e = .returned (.bool true) ∧ Below w.heap.size w w' := by
  have hp2 := h.p2
  have HP : Hid _ := h
  have HI : Hid _ := hi
  have Q1 : Hid _ := Places_any w P gb gf gr gt s h
  obtain ⟨N, hN⟩ : ∃ N, N = s.pool := ⟨_, rfl⟩
  have HN : Hid (N = s.pool) := hN
  rw [← hN] at hp2 Q1 ⊢
  clear h hN hi
  go_enter Try.func25, Try.ntmps25
  go_wp2_with fail
  refine Calls.mono Q1.out ?_
  rintro e w1 ⟨g, rfl, hrow, hb1⟩
  clear Q1
  go_upto_region 3 with fail
  obtain ⟨C, hC⟩ : ∃ C, C = w1.heap.size := ⟨_, rfl⟩
  obtain ⟨W, hW⟩ : ∃ W, W = w1.alloc (.cells #[.int .i64 0, .int .i64 0, .int .i64 0, .int .i64 0, .int .i64 0, .int .i64 0] 83) := ⟨_, rfl⟩
  have bel : Below w.heap.size w W := by rw [hW]; exact hb1.alloc hb1.size _
  have hrow1 : W.ownsRow w.heap.size 3 1 (.slice (some ⟨g, 0, none⟩) N N) N (nV ((List.range N).map s.pl)) := by rw [hW]; exact hrow.alloc _
  have hgC : g ≠ C := by have := (hrow.lt g rfl).2; omega
  have hCw : w.heap.size ≤ C := by rw [hC]; exact hb1.size
  have hc0 : ∀ j, j < 6 → W.cell? ⟨C, j, none⟩ = some (.int .i64 (cnt s.pl 0 j)) := fun j hj => by
    rw [hW, World.cell?_alloc_at _ _ _ _ hC]
    have : j = 0 ∨ j = 1 ∨ j = 2 ∨ j = 3 ∨ j = 4 ∨ j = 5 := by omega
    rcases this with rfl | rfl | rfl | rfl | rfl | rfl <;> simp [cnt]
  have hf0 : ∀ j, W.frozen? ⟨C, j, none⟩ = false := fun j => by
    have hh := heap_alloc_new w1 (.cells #[.int .i64 0, .int .i64 0, .int .i64 0, .int .i64 0, .int .i64 0, .int .i64 0] 83)
    rw [← hW, ← hC] at hh
    simp [World.frozen?, hh]
  rw [← hW, ← hC]
  clear hW hC hb1 hrow
  go_wp2
  go_loopw [7] (fun ix wr => ∃ k : Nat, k ≤ N ∧ ix = .int .i64 k ∧ Below w.heap.size w wr ∧ wr.ownsRow w.heap.size 3 1 (.slice (some ⟨g, 0, none⟩) N N) N (nV ((List.range N).map s.pl)) ∧ (∀ j, j < 6 → wr.cell? ⟨C, j, none⟩ = some (.int .i64 (cnt s.pl k j))) ∧ ∀ j, wr.frozen? ⟨C, j, none⟩ = false) (fun ix _ => N - (intOf ix).toNat)
  case atStart => exact ⟨0, Nat.zero_le _, rfl, bel, hrow1, hc0, hf0⟩
  case round =>
    obtain ⟨k, hk, rfl, hbel, hrow, hcs, hfz⟩ := hrel
    clear bel hrow1 hc0 hf0
    by_cases hlt : k < N
    · have hpr := HI.out.pr k (by have := HN.out; omega)
      have cl : wr.cell? ⟨g, k, none⟩ = some (.int .i64 (s.pl k : Int)) := by
        rw [hrow.cellAt k (by omega)]
        simp [nV, hlt]
      obtain ⟨x, hx⟩ : ∃ x, x = s.pl k := ⟨_, rfl⟩
      rw [← hx] at cl hpr
      have cx := hcs x (by omega)
      have fx := hfz x
      obtain ⟨c, hc⟩ : ∃ c, c = cnt s.pl k x := ⟨_, rfl⟩
      have hcle : c ≤ k := by rw [hc]; exact cnt_le _ _ _
      rw [← hc] at cx
      have wq : IntKind.i64.wrap ((c : Int) + 1) = (c : Int) + 1 := i64_small _ (by omega) (by omega)
      have x0 : (0 : Int) ≤ (x : Int) := by omega
      have x1 : (x : Int) < 6 := by omega
      have x2 : ((x : Int)).toNat = x := by omega
      have x3 : decide ((x : Int) < 1) = false := decide_eq_false (by omega)
      have x4 : decide (5 < (x : Int)) = false := decide_eq_false (by omega)
      have kk : Ch (fun q => q = C) wr (wr.setCell ⟨C, x, none⟩ (.int .i64 ((c : Int) + 1))) := (Ch.refl _ wr).set _ _ rfl
      have HF : Hid (Below w.heap.size w (wr.setCell ⟨C, x, none⟩ (.int .i64 ((c : Int) + 1))) ∧ (wr.setCell ⟨C, x, none⟩ (.int .i64 ((c : Int) + 1))).ownsRow w.heap.size 3 1 (.slice (some ⟨g, 0, none⟩) N N) N (nV ((List.range N).map s.pl)) ∧ (∀ j, j < 6 → (wr.setCell ⟨C, x, none⟩ (.int .i64 ((c : Int) + 1))).cell? ⟨C, j, none⟩ = some (.int .i64 (cnt s.pl (k + 1) j))) ∧ ∀ j, (wr.setCell ⟨C, x, none⟩ (.int .i64 ((c : Int) + 1))).frozen? ⟨C, j, none⟩ = false) := by
        refine ⟨hbel.trans (kk.below (fun q e => by omega) hbel.size), kk.owns hrow (fun q hq e => hgC (by simp [Value.ownBlock] at hq; omega)), fun j hj => ?_, fun j => by rw [World.frozen?_setCell]; exact hfz j⟩
        by_cases e : j = x
        · subst e
          rw [World.cell?_setCell_same _ _ _ cx]
          simp [cnt, ← hx, hc]
        · rw [gb_other _ _ _ _ _ e, hcs j hj]
          rw [cnt, ← hx, if_neg (fun e' => e e'.symm), Nat.add_zero]
      clear hx hc kk hcs hfz hbel hrow hpr
      go_wp2
      go_roundw
      case rel =>
        obtain ⟨f1, f2, f3, f4⟩ := HF.out
        exact ⟨k + 1, by omega, by go_num, f1, f2, f3, f4⟩
      case measure => simp [intOf]; omega
    · obtain rfl : k = N := by omega
      have hr := HP.out.below hbel
      have Q2 : Hid _ := Stat_any wr P gb gf gr gt s hr (fun i hi => (HI.out.pr i hi).2)
      rw [← HN.out] at Q2
      clear hr
      go_wp2_with fail
      refine Calls.mono Q2.out ?_
      rintro e w3 ⟨rfl, hb3⟩
      have cs : ∀ j, j < 6 → w3.cell? ⟨C, j, none⟩ = some (.int .i64 (cnt s.pl k j)) := fun j hj => (hb3.cell (p := ⟨C, j, none⟩) (World.block_lt_of_cell? wr _ (hcs j hj))).trans (hcs j hj)
      have a1 := cs 1 (by decide)
      have a2 := cs 2 (by decide)
      have a3 := cs 3 (by decide)
      have a4 := cs 4 (by decide)
      have a5 := cs 5 (by decide)
      have hCl : C < w3.heap.size := World.block_lt_of_cell? w3 _ a1
      unfold statV
      obtain ⟨n1, h1⟩ : ∃ n, n = cnt s.pl k 1 := ⟨_, rfl⟩
      obtain ⟨n2, h2⟩ : ∃ n, n = cnt s.pl k 2 := ⟨_, rfl⟩
      obtain ⟨n3, h3⟩ : ∃ n, n = cnt s.pl k 3 := ⟨_, rfl⟩
      obtain ⟨n4, h4⟩ : ∃ n, n = cnt s.pl k 4 := ⟨_, rfl⟩
      obtain ⟨n5, h5⟩ : ∃ n, n = cnt s.pl k 5 := ⟨_, rfl⟩
      rw [← h1, ← h2, ← h3, ← h4, ← h5]
      rw [← h1] at a1
      rw [← h2] at a2
      rw [← h3] at a3
      rw [← h4] at a4
      rw [← h5] at a5
      have hbf : Below w.heap.size w w3 := hbel.trans (hb3.mono hbel.size)
      clear h1 h2 h3 h4 h5 hcs hfz hbel hrow Q2 hb3 cs
      go_upto_region 10 with fail
      obtain ⟨D, hD⟩ : ∃ D, D = w3.heap.size := ⟨_, rfl⟩
      have hbg : Below w.heap.size w (w3.alloc (.cells #[.int .i64 n1, .int .i64 n2, .int .i64 n3, .int .i64 n4, .int .i64 n5] 52)) := hbf.alloc hbf.size _
      go_wp2
      go_ret
      exact ⟨by simp, hbg⟩
end Go.Proofs.Ytaicmpkgcppplaa
