/-
  What PutND writes, ParseND reads; what ParseND reads, PutND takes: in numbers.
-/
import Derived.Test.YtijipfciimcnpaaDoorI8Put0
namespace Go.Proofs.YtijipfciimcnpaaDoor
open Go.RowKit
open I8 (M8)

theorem hdA_congr (x y : Nat → Nat) (n i : Nat) (h : x i = y i) : hdA x n i = hdA y n i := by unfold hdA; rw [h]
theorem same16_congr (x y a b : Nat → Nat) (h : ∀ i, i < 16 → x i = y i) (k : ∀ i, i < 16 → a i = b i) : same16 x a = same16 y b := by
  have e : ∀ p q : Bool, (p = true ↔ q = true) → p = q := by decide
  apply e
  rw [same16_iff, same16_iff]
  constructor
  · intro g i hi; rw [← h i hi, ← k i hi]; exact g i hi
  · intro g i hi; rw [h i hi, k i hi]; exact g i hi
theorem mt_congr (V : Int) (x y : Nat → Nat) (h : ∀ i, i < 16 → x i = y i) (k : Nat) : mt V x k = mt V y k := by
  unfold mt
  rw [same16_congr (hdA x (ln k)) (hdA y (ln k)) (nt k) (nt k) (fun i hi => hdA_congr x y _ i (h i hi)) (fun _ _ => rfl)]
theorem clF_congr (V : Int) (x y : Nat → Nat) (h : ∀ i, i < 16 → x i = y i) : ∀ f k, clF V x f k = clF V y f k
  | 0, _ => rfl
  | f + 1, k => by rw [clF, clF, mt_congr V x y h, clF_congr V x y h f]
theorem clsA_congr (V : Int) (x y : Nat → Nat) (h : ∀ i, i < 16 → x i = y i) : clsA V x = clsA V y := by
  unfold clsA vld
  rw [clF_congr V x y h, same16_congr (hdA x 32) (hdA y 32) x y (fun i hi => hdA_congr x y _ i (h i hi)) h]
theorem tmB_congr (V : Int) (x y : Nat → Nat) (h : ∀ i, i < 16 → x i = y i) : tmB V x = tmB V y := by
  unfold tmB
  rw [clsA_congr V x y h]
theorem tmB_six (V : Int) (x : Nat → Nat) (h : tmB V x = true) : V = 6 := by
  unfold tmB at h
  by_cases e : V = 6
  · exact e
  · rw [beq_eq_false_iff_ne.2 e] at h; simp at h
theorem pnD_x (l : Nat) (x : Nat → Nat) (h : Bool) (m : Nat → Nat) (i : Nat) (hi : i < 16) : tgX (pnD l x h m) i = x i := by
  unfold tgX pnD
  rw [List.getD, List.getElem?_append_left (by rw [ipL_len]; exact hi)]
  simp [ipL, hi]
theorem pnD_len (l : Nat) (x : Nat → Nat) (h : Bool) (m : Nat → Nat) : (pnD l x h m).length = if h then 24 else 16 := by
  unfold pnD
  cases h <;> simp [ipL_len, mcL]
theorem pnD_opt (l : Nat) (x m : Nat → Nat) (i : Nat) : (pnD l x true m).getD (16 + i) 0 = ([l, 1] ++ mcL m).getD i 0 := by
  unfold pnD
  rw [List.getD, List.getElem?_append_right (by rw [ipL_len]; omega), ipL_len]
  simp [List.getD]
theorem pnD_opOk (l : Nat) (x m : Nat → Nat) : OpOk8 (pnD l x true m) 16 ∧ opU (pnD l x true m) 16 = 1 := by
  have e : opU (pnD l x true m) 16 = 1 := by unfold opU; rw [pnD_opt l x m 1]; rfl
  have hl := pnD_len l x true m
  refine ⟨⟨by rw [hl]; decide, by rw [e]; decide, by rw [e, hl]; decide⟩, e⟩
theorem mcX_opt (l : Nat) (x m : Nat → Nat) (i : Nat) (hi : i < 6) : mcX (pnD l x true m) 16 i = m i := by
  unfold mcX tgX
  have h1 := pnD_opt l x m (2 + i)
  rw [List.getD, List.getElem?_take, if_pos hi, List.getElem?_drop]
  rw [List.getD] at h1
  rw [show 16 + 2 + i = 16 + (2 + i) by omega, h1]
  have : ([l, 1] ++ mcL m).getD (2 + i) 0 = (mcL m).getD i 0 := by simp [List.getD, Nat.add_comm 2 i]
  rw [this]
  simp [mcL, List.getD, hi]
theorem lk_put_no (l : Nat) (x m : Nat → Nat) : lk (pnD l x false m) l (pnD l x false m).length 16 false (fun _ => 0) = (fun _ => 0, false, 0) :=
  lk_end _ _ _ _ _ _ (by rw [pnD_len]; decide)
theorem lk_put_yes (l : Nat) (x m : Nat → Nat) : lk (pnD l x true m) l (pnD l x true m).length 16 false (fun _ => 0) = (mcX (pnD l x true m) 16, true, 0) := by
  have hl := pnD_len l x true m
  obtain ⟨ho, hu⟩ := pnD_opOk l x m
  obtain ⟨g, _, e⟩ := lk_new (pnD l x true m) (l : Int) (pnD l x true m).length 16 (fun _ => 0) (by rw [hl]; decide) (by omega) ho (by have h := pnD_opt l x m 0; rw [Nat.add_zero] at h; rw [h]; rfl) hu
  rw [e]
  exact lk_end _ _ _ _ _ _ (by rw [hu, hl]; decide)
theorem fB_rs (r s o : Bool) : fB (rsB r s o) 2147483648 = r ∧ fB (rsB r s o) 1073741824 = s ∧ fB (rsB r s o) 536870912 = o := by
  cases r <;> cases s <;> cases o <;> decide
theorem rs_zero (r s o : Bool) (h : rsB r s o = 0) : r = false ∧ s = false ∧ o = false := by
  revert h
  cases r <;> cases s <;> cases o <;> decide
theorem rs_in (r s o : Bool) : I8.inB (rsB r s o) 4294967295 = true := by
  cases r <;> cases s <;> cases o <;> decide
theorem ndC_congr (k V : Int) (x y : Nat → Nat) (r s o h : Bool) (m n : Nat → Nat) (hx : ∀ i, i < 16 → x i = y i) (hm : ∀ i, i < 6 → m i = n i) : ndC k V x r s o h m = ndC k V y r s o h n := by
  unfold ndC
  rw [hx 0 (by decide), hx 1 (by decide), hx 2 (by decide), hx 3 (by decide), hx 4 (by decide), hx 5 (by decide), hx 6 (by decide), hx 7 (by decide), hx 8 (by decide), hx 9 (by decide), hx 10 (by decide), hx 11 (by decide), hx 12 (by decide), hx 13 (by decide), hx 14 (by decide), hx 15 (by decide), hm 0 (by decide), hm 1 (by decide), hm 2 (by decide), hm 3 (by decide), hm 4 (by decide), hm 5 (by decide)]
end Go.Proofs.YtijipfciimcnpaaDoor
