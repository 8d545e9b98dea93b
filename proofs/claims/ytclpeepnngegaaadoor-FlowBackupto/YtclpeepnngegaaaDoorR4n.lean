/-
  weirref4: of, with a right text; the twelve texts of Class.
-/
import Derived.Test.YtclpeepnngegaaaDoorR4m
namespace Go.Proofs.YtclpeepnngegaaaDoor
open Go.RowKit Go.Maps

set_option maxHeartbeats 1600000 in
set_option maxRecDepth 100000 in
theorem of_right {s : ByteArray} {k : Nat} {V : Int} {x : Nat → Nat} {n : Nat} (h : PfOk s k V x n) (U : Int) (y : Nat → Nat) (w : World) (hy : ∀ i, i < 16 → y i < 256) : Calls Tryd.prog 50 #[.string s, .agg (ipCells U y)] w fun r w' => r = .returned (.bool (cnR ⟨V, x, (n : Nat)⟩ U y)) ∧ Below w.heap.size w w' := by
  have HP : Hid (PfOk s k V x n) := h
  have HY : Hid (∀ i, i < 16 → y i < 256) := hy
  clear h hy
  have hb := ipr_new w U y
  have bel : Below w.heap.size w (w.alloc (.cells (ipCells U y) 24)) := (Below.refl _ _).alloc (Nat.le_refl _) _
  obtain ⟨CX, hC⟩ : ∃ C, C = ipCells U y := ⟨_, rfl⟩
  obtain ⟨W, hW⟩ : ∃ W_, W_ = w.alloc (.cells (ipCells U y) 24) := ⟨_, rfl⟩
  rw [← hW] at hb bel
  have HSZX : Hid (W.heap.size = w.heap.size + 1) := by show _ = _; rw [hW, World.size_alloc]
  obtain ⟨B, hB⟩ : ∃ B, B = w.heap.size := ⟨_, rfl⟩
  rw [← hB] at hb
  have HBX : Hid (IprAt W B U y) := hb
  rw [← hC] at hW ⊢
  have HOX : Hid (w.heap.size = B) := hB.symm
  have HLX : Hid (Below w.heap.size w W) := bel
  have HWX : Hid (w.alloc (.cells CX 24) = W) := hW.symm
  clear hb hW hB hC bel
  go_enter Tryd.func50, Tryd.ntmps50
  go_wp2_with (rw [HOX.out, HWX.out])
  refine (prefix_right HP.out W).mono ?_
  rintro e1 w1 ⟨rfl, b1⟩
  have H1 : Hid (IprAt w1 B U y ∧ Below w.heap.size w w1) := ⟨HBX.out.below b1, bthen HLX.out b1⟩
  clear b1
  obtain ⟨w2, hw2⟩ : ∃ w2, w2 = w1.alloc (.cells (pfC pv0) 114) := ⟨_, rfl⟩
  have l2 : Below w1.heap.size w1 w2 := by rw [hw2]; exact (Below.refl _ _).alloc (Nat.le_refl _) _
  have a2 := pfx_new w1 pv0
  rw [← hw2] at a2
  obtain ⟨D, hD⟩ : ∃ D, w1.heap.size = D := ⟨_, rfl⟩
  rw [hD] at a2
  have HOD : Hid (w1.heap.size = D) := hD
  have HW2 : Hid (w1.alloc (.cells (pfC pv0) 114) = w2) := hw2.symm
  have H2 : Hid (IprAt w2 B U y ∧ PfxAt w2 D pv0 ∧ Below w.heap.size w w2 ∧ B < D) := ⟨H1.out.1.below l2, a2, bthen H1.out.2 l2, by rw [← hD]; exact H1.out.1.lt⟩
  clear hw2 l2 a2 hD
  go_wp2_with (first | (refine wpList_alloc_pfx rfl rfl ?_; rw [HW2.out, HOD.out]) | (refine wpList_store_pfx (.tmp 5) (.tmp 11) rfl rfl D pv0 ⟨V, x, (n : Nat)⟩ rfl rfl H2.out.2.1 rfl ?_))
  intro w3 h3 k3
  have H3 : Hid (IprAt w3 B U y ∧ PfxAt w3 D ⟨V, x, (n : Nat)⟩ ∧ Below w.heap.size w w3) := ⟨H2.out.1.ch k3 (by have := H2.out.2.2.2; omega), h3, H2.out.2.2.1.trans (k3.below (fun q hq => by have h1 := H2.out.2.2.2; have h2 := HOX.out; omega) H2.out.2.2.1.size)⟩
  clear h3 k3
  go_wp2_with (first | (refine wpList_load_pfx (.tmp 5) rfl D ⟨V, x, (n : Nat)⟩ rfl H3.out.2.1 rfl ?_) | (refine wpList_load_ipr (.tmp 3) rfl B U y rfl H3.out.1 rfl ?_))
  refine (containsR_any ⟨V, x, (n : Nat)⟩ U y w3 HP.out.xb HY.out).mono ?_
  rintro e1 w4 ⟨rfl, b4⟩
  have H4 : Hid (Below w.heap.size w w4) := bthen H3.out.2.2 b4
  clear b4
  go_wp2_with fail
  go_ret
  exact ⟨rfl, H4.out⟩
/-- the bytes of a list -/
def bt (L : List Nat) : Nat → Nat := fun i => L.getD i 0
theorem nodot {s : ByteArray} (h : ((List.range s.size).all fun i => sB s i != 46) = true) : ∀ i, sB s i ≠ 46 := by
  intro i
  by_cases hi : i < s.size
  · have := List.all_eq_true.1 h i (List.mem_range.2 hi)
    simpa using this
  · have : sB s i = 0 := by
      unfold sB
      have h2 : ¬ i < s.data.toList.length := hi
      rw [List.getD_eq_getElem?_getD, List.getElem?_eq_none (by omega)]
      rfl
    omega
def ckP (s : ByteArray) (k : Nat) (V : Int) (L : List Nat) (n : Nat) : Bool := decide (s.size ≤ 49) && decide (k + 1 < s.size) && ((List.range k).all fun i => sB s i != 47) && sB s k == 47 && ((List.range 16).all fun i => decide (bt L i < 256)) && ((List.range (s.size - (k + 1))).all fun i => dgB (sB s (k + 1 + i))) && decide (dcm s (k + 1) s.size (wdN V) = (n : Nat)) && vpR ⟨V, bt L, (n : Nat)⟩ == 0
theorem ckP_ok {s u : ByteArray} {k : Nat} {V : Int} {L : List Nat} {n : Nat} (h : ckP s k V L n = true) (hu : s.extract 0 k = u) (hip : ∀ w, Calls Tryd.prog 74 #[.string u] w fun r w' => r = .returned (.tuple #[.agg (ipCells V (bt L)), .int .i64 0, .int .i64 0]) ∧ Below w.heap.size w w') : PfOk s k V (bt L) n := by
  unfold ckP at h
  simp only [Bool.and_eq_true, decide_eq_true_eq, beq_iff_eq, List.all_eq_true, List.mem_range, bne_iff_ne] at h
  obtain ⟨⟨⟨⟨⟨⟨⟨h1, h2⟩, h3⟩, h4⟩, h5⟩, h6⟩, h7⟩, h8⟩ := h
  exact ⟨h1, h2, h3, h4, by rw [hu]; exact hip, h5, h6, h7, h8⟩
theorem pf4 {s : ByteArray} (u : ByteArray) {k : Nat} {L : List Nat} {n : Nat} (h : ckP s k 4 L n = true) (hu : s.extract 0 k = u) (hl : L.length = 4) (h1 : (decide (u.size ≤ 45) && !hsB u 58) = true) (hd : dtd u 4 0 [] = .inl L) : PfOk s k 4 (bt L) n := by
  simp at h1
  refine ckP_ok h hu (fun w => (parse4_right u L w h1.1 h1.2 hl hd).mono ?_)
  rintro r w' ⟨hr, b⟩
  refine ⟨?_, b⟩
  have e : ipCells 4 (pre L 4) = ipCells 4 (bt L) := by
    have : pre L 4 = bt L := by
      funext j
      unfold pre bt
      by_cases hj : j < 4
      · rw [if_pos hj]
      · rw [if_neg hj, List.getD_eq_getElem?_getD, List.getElem?_eq_none (by omega)]; rfl
    rw [this]
  rw [hr, e]
theorem pf6 {s : ByteArray} (u : ByteArray) {k : Nat} {L : List Nat} {n : Nat} (h : ckP s k 6 L n = true) (hu : s.extract 0 k = u) (h1 : (decide (u.size ≤ 45) && hsB u 58 && ((List.range u.size).all fun i => sB u i != 46) && (sxL u).er == 0 && !(decide ((sxL u).gap < 0) && decide ((sxL u).g.length < 8))) = true) (he : ipCells 6 (fil (sxL u) (sxL u).g.length) = ipCells 6 (bt L)) : PfOk s k 6 (bt L) n := by
  simp only [Bool.and_eq_true] at h1
  obtain ⟨⟨⟨⟨a1, a2⟩, a3⟩, a4⟩, a5⟩ := h1
  refine ckP_ok h hu (fun w => (parse6_right u w (by simpa using a1) a2 (nodot a3) (by simpa using a4) ((Bool.not_eq_true' _).mp a5)).mono ?_)
  rintro r w' ⟨hr, b⟩
  exact ⟨by rw [hr, he], b⟩
theorem tx4_0 : PfOk ⟨#[48, 46, 48, 46, 48, 46, 48, 47, 51, 50]⟩ 7 4 (bt [0, 0, 0, 0]) 32 := pf4 ⟨#[48, 46, 48, 46, 48, 46, 48]⟩ (by decide +kernel) (by kernel_rfl) rfl (by decide +kernel) (by kernel_rfl)
theorem tx4_1 : PfOk ⟨#[49, 50, 55, 46, 48, 46, 48, 46, 48, 47, 56]⟩ 9 4 (bt [127, 0, 0, 0]) 8 := pf4 ⟨#[49, 50, 55, 46, 48, 46, 48, 46, 48]⟩ (by decide +kernel) (by kernel_rfl) rfl (by decide +kernel) (by kernel_rfl)
theorem tx4_2 : PfOk ⟨#[50, 50, 52, 46, 48, 46, 48, 46, 48, 47, 52]⟩ 9 4 (bt [224, 0, 0, 0]) 4 := pf4 ⟨#[50, 50, 52, 46, 48, 46, 48, 46, 48]⟩ (by decide +kernel) (by kernel_rfl) rfl (by decide +kernel) (by kernel_rfl)
theorem tx4_3 : PfOk ⟨#[49, 54, 57, 46, 50, 53, 52, 46, 48, 46, 48, 47, 49, 54]⟩ 11 4 (bt [169, 254, 0, 0]) 16 := pf4 ⟨#[49, 54, 57, 46, 50, 53, 52, 46, 48, 46, 48]⟩ (by decide +kernel) (by kernel_rfl) rfl (by decide +kernel) (by kernel_rfl)
theorem tx4_4 : PfOk ⟨#[50, 53, 53, 46, 50, 53, 53, 46, 50, 53, 53, 46, 50, 53, 53, 47, 51, 50]⟩ 15 4 (bt [255, 255, 255, 255]) 32 := pf4 ⟨#[50, 53, 53, 46, 50, 53, 53, 46, 50, 53, 53, 46, 50, 53, 53]⟩ (by decide +kernel) (by kernel_rfl) rfl (by decide +kernel) (by kernel_rfl)
theorem tx4_5 : PfOk ⟨#[48, 46, 48, 46, 48, 46, 48, 47, 56]⟩ 7 4 (bt [0, 0, 0, 0]) 8 := pf4 ⟨#[48, 46, 48, 46, 48, 46, 48]⟩ (by decide +kernel) (by kernel_rfl) rfl (by decide +kernel) (by kernel_rfl)
theorem tx4_6 : PfOk ⟨#[50, 52, 48, 46, 48, 46, 48, 46, 48, 47, 52]⟩ 9 4 (bt [240, 0, 0, 0]) 4 := pf4 ⟨#[50, 52, 48, 46, 48, 46, 48, 46, 48]⟩ (by decide +kernel) (by kernel_rfl) rfl (by decide +kernel) (by kernel_rfl)
theorem tx6_0 : PfOk ⟨#[58, 58, 47, 49, 50, 56]⟩ 2 6 (bt [0, 0, 0, 0, 0, 0, 0, 0, 0, 0, 0, 0, 0, 0, 0, 0]) 128 := pf6 ⟨#[58, 58]⟩ (by decide +kernel) (by kernel_rfl) (by decide +kernel) (by kernel_rfl)
theorem tx6_1 : PfOk ⟨#[58, 58, 49, 47, 49, 50, 56]⟩ 3 6 (bt [0, 0, 0, 0, 0, 0, 0, 0, 0, 0, 0, 0, 0, 0, 0, 1]) 128 := pf6 ⟨#[58, 58, 49]⟩ (by decide +kernel) (by kernel_rfl) (by decide +kernel) (by kernel_rfl)
theorem tx6_2 : PfOk ⟨#[102, 102, 48, 48, 58, 58, 47, 56]⟩ 6 6 (bt [255, 0, 0, 0, 0, 0, 0, 0, 0, 0, 0, 0, 0, 0, 0, 0]) 8 := pf6 ⟨#[102, 102, 48, 48, 58, 58]⟩ (by decide +kernel) (by kernel_rfl) (by decide +kernel) (by kernel_rfl)
theorem tx6_3 : PfOk ⟨#[102, 101, 56, 48, 58, 58, 47, 49, 48]⟩ 6 6 (bt [254, 128, 0, 0, 0, 0, 0, 0, 0, 0, 0, 0, 0, 0, 0, 0]) 10 := pf6 ⟨#[102, 101, 56, 48, 58, 58]⟩ (by decide +kernel) (by kernel_rfl) (by decide +kernel) (by kernel_rfl)
theorem tx6_4 : PfOk ⟨#[58, 58, 47, 56]⟩ 2 6 (bt [0, 0, 0, 0, 0, 0, 0, 0, 0, 0, 0, 0, 0, 0, 0, 0]) 8 := pf6 ⟨#[58, 58]⟩ (by decide +kernel) (by kernel_rfl) (by decide +kernel) (by kernel_rfl)
end Go.Proofs.YtclpeepnngegaaaDoor
