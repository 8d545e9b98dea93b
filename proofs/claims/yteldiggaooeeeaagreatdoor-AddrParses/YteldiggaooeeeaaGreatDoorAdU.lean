/-
  Layer 4: two different addresses never print alike, nor do two prefixes, nor two link addresses.
-/
import Derived.Test.YteldiggaooeeeaaGreatDoorZg
namespace Go.Proofs.YteldiggaooeeeaaGreatDoor
open Go.RowKit

/-- a byte, and no stroke -/
def Chr (c : Nat) : Prop := c < 256 ∧ c ≠ 47
theorem jn_mem : ∀ (L : List (List Nat)) (c : Nat), c ∈ jn L → c = 58 ∨ ∃ l ∈ L, c ∈ l
  | [], c, h => by cases h
  | [a], c, h => .inr ⟨a, by simp, h⟩
  | a :: b :: t, c, h => by
    rw [jn_two] at h
    rcases List.mem_append.1 h with h | h
    · exact .inr ⟨a, by simp, h⟩
    · rcases List.mem_cons.1 h with h | h
      · exact .inl h
      · rcases jn_mem (b :: t) c h with h | ⟨l, hl, hc⟩
        · exact .inl h
        · exact .inr ⟨l, List.mem_cons_of_mem _ hl, hc⟩
theorem dots_chr {a b c d : Nat} (ha : a < 256) (hb : b < 256) (hc : c < 256) (hd : d < 256) : ∀ y ∈ dots a b c d, Chr y := fun y h => by
  rcases dots_no ha hb hc hd h with h | h
  · unfold dgB at h
    simp at h
    exact ⟨by omega, by omega⟩
  · subst h; exact ⟨by decide, by decide⟩
theorem hd_chr {k : Nat} (h : k < 16) : Chr (hd k) := by unfold hd Chr; split <;> omega
theorem hexL_chr {v : Nat} (h : v < 65536) : ∀ y ∈ hexL v, Chr y := fun y hy => by
  unfold hexL at hy
  split at hy
  · simp at hy; subst hy; exact hd_chr (by omega)
  · split at hy
    · simp at hy
      rcases hy with rfl | rfl <;> exact hd_chr (by omega)
    · split at hy
      · simp at hy
        rcases hy with rfl | rfl | rfl <;> exact hd_chr (by omega)
      · simp at hy
        rcases hy with rfl | rfl | rfl | rfl <;> exact hd_chr (by omega)
theorem jn_chr {x : Nat → Nat} (hx : ∀ i, i < 16 → x i < 256) (a n : Nat) (h : a + n ≤ 8) : ∀ y ∈ jn ((List.range' a n).map fun k => hexL (gx x k)), Chr y := fun y hy => by
  rcases jn_mem _ _ hy with rfl | ⟨l, hl, hc⟩
  · exact ⟨by decide, by decide⟩
  · obtain ⟨k, hk, rfl⟩ := List.mem_map.1 hl
    rw [List.mem_range'_1] at hk
    exact hexL_chr (gx_lt hx (by omega)) y hc
theorem prG_chr {x : Nat → Nat} (hx : ∀ i, i < 16 → x i < 256) : ∀ y ∈ prG x, Chr y := fun y hy => by
  by_cases h2 : (lzN x 8).2 - (lzN x 8).1 < 2
  · rw [prG_flat h2, List.range_eq_range'] at hy
    exact jn_chr hx 0 8 (by omega) y hy
  · rw [prG_gap h2] at hy
    have h0 := lzN_at x 8 (Nat.le_refl _)
    rcases List.mem_append.1 hy with hy | hy
    · rcases List.mem_append.1 hy with hy | hy
      · exact jn_chr hx 0 _ (by omega) y hy
      · simp at hy; subst hy; exact ⟨by decide, by decide⟩
    · exact jn_chr hx _ _ (by omega) y hy
theorem prIP_chr {V : Int} {x : Nat → Nat} (hx : ∀ i, i < 16 → x i < 256) : ∀ y ∈ prIP V x, Chr y := fun y hy => by
  unfold prIP at hy
  split at hy
  · exact dots_chr (hx _ (by omega)) (hx _ (by omega)) (hx _ (by omega)) (hx _ (by omega)) y hy
  · split at hy
    · rcases List.mem_append.1 hy with hy | hy
      · simp at hy
        rcases hy with rfl | rfl | rfl | rfl | rfl | rfl | rfl <;> exact ⟨by decide, by decide⟩
      · exact dots_chr (hx _ (by omega)) (hx _ (by omega)) (hx _ (by omega)) (hx _ (by omega)) y hy
    · exact prG_chr hx y hy
theorem gx_congr {x y : Nat → Nat} (h : ∀ i, i < 16 → x i = y i) {k : Nat} (hk : k < 8) : gx x k = gx y k := by unfold gx; rw [h _ (by omega), h _ (by omega)]
theorem zEn_congr {x y : Nat → Nat} (h : ∀ i, i < 16 → x i = y i) : ∀ n i, i + n ≤ 8 → zEn x n i = zEn y n i
  | 0, _, _ => rfl
  | n + 1, i, hn => by
    unfold zEn
    rw [gx_congr h (show i < 8 by omega), zEn_congr h n (i + 1) (by omega)]
theorem lzN_congr {x y : Nat → Nat} (h : ∀ i, i < 16 → x i = y i) : ∀ n, n ≤ 8 → lzN x n = lzN y n
  | 0, _ => rfl
  | n + 1, hn => by
    unfold lzN
    have e : zE x n = zE y n := zEn_congr h _ _ (by omega)
    rw [lzN_congr h n (by omega), e]
theorem jn_congr {x y : Nat → Nat} (h : ∀ i, i < 16 → x i = y i) (a n : Nat) (hn : a + n ≤ 8) : ((List.range' a n).map fun k => hexL (gx x k)) = (List.range' a n).map fun k => hexL (gx y k) := by
  refine List.map_congr_left fun k hk => ?_
  rw [List.mem_range'_1] at hk
  rw [gx_congr h (show k < 8 by omega)]
theorem prG_congr {x y : Nat → Nat} (h : ∀ i, i < 16 → x i = y i) : prG x = prG y := by
  have e := lzN_congr h 8 (Nat.le_refl _)
  have h0 := lzN_at y 8 (Nat.le_refl _)
  by_cases h2 : (lzN y 8).2 - (lzN y 8).1 < 2
  · rw [prG_flat h2, prG_flat (by rw [e]; exact h2), List.range_eq_range', jn_congr h 0 8 (by omega)]
  · rw [prG_gap h2, prG_gap (by rw [e]; exact h2), e, jn_congr h 0 _ (by omega), jn_congr h _ _ (by omega)]
theorem hdA_congr {x y : Nat → Nat} (h : ∀ i, i < 16 → x i = y i) (n : Nat) {i : Nat} (hi : i < 16) : hdA x n i = hdA y n i := by unfold hdA; rw [h i hi]
theorem mpB_congr {x y : Nat → Nat} (h : ∀ i, i < 16 → x i = y i) : mpB x = mpB y := by
  unfold mpB
  refine Bool.eq_iff_iff.2 ?_
  rw [same16_iff, same16_iff]
  exact ⟨fun k i hi => (hdA_congr h 96 hi).symm.trans (k i hi), fun k i hi => (hdA_congr h 96 hi).trans (k i hi)⟩
theorem prIP_congr {V : Int} {x y : Nat → Nat} (h : ∀ i, i < 16 → x i = y i) : prIP V x = prIP V y := by
  unfold prIP
  rw [mpB_congr h, prG_congr h, h 0 (by omega), h 1 (by omega), h 2 (by omega), h 3 (by omega), h 12 (by omega), h 13 (by omega), h 14 (by omega), h 15 (by omega)]
theorem split_at {A B C D : List Nat} (hA : ∀ c ∈ A, c ≠ 47) (hB : ∀ c ∈ B, c ≠ 47) (h : A ++ 47 :: C = B ++ 47 :: D) : A = B ∧ C = D := by
  induction A generalizing B with
  | nil =>
    cases B with
    | nil => exact ⟨rfl, by injection h⟩
    | cons b t => injection h with h1 h2; exact absurd h1.symm (hB b (by simp))
  | cons a s ih =>
    cases B with
    | nil => injection h with h1 h2; exact absurd h1 (hA a (by simp))
    | cons b t =>
      injection h with h1 h2
      obtain ⟨e1, e2⟩ := ih (fun c hc => hA c (List.mem_cons_of_mem _ hc)) (fun c hc => hB c (List.mem_cons_of_mem _ hc)) h2
      exact ⟨by rw [h1, e1], e2⟩
def unD : List Nat → Nat := List.foldl (fun v d => 10 * v + (d - 48)) 0
theorem unD_dec3 {n : Nat} (h : n < 256) : unD (dec3 n) = n := by
  have k : ∀ i : Fin 256, unD (dec3 i.val) = i.val := by decide +kernel
  exact k ⟨n, h⟩
def unH (c : Nat) : Nat := if c < 58 then c - 48 else c - 87
theorem unH_hd {k : Nat} (h : k < 16) : unH (hd k) = k := by unfold unH hd; (repeat' split) <;> omega
theorem prM_list (m : Nat → Nat) : prM m 6 = [hd (m 0 / 16), hd (m 0 % 16), 58, hd (m 1 / 16), hd (m 1 % 16), 58, hd (m 2 / 16), hd (m 2 % 16), 58, hd (m 3 / 16), hd (m 3 % 16), 58, hd (m 4 / 16), hd (m 4 % 16), 58, hd (m 5 / 16), hd (m 5 % 16)] := rfl
theorem byte_tell {a b : Nat} (ha : a < 256) (hb : b < 256) (h1 : hd (a / 16) = hd (b / 16)) (h2 : hd (a % 16) = hd (b % 16)) : a = b := by
  have k1 := congrArg unH h1
  have k2 := congrArg unH h2
  rw [unH_hd (by omega), unH_hd (by omega)] at k1
  rw [unH_hd (by omega), unH_hd (by omega)] at k2
  omega
theorem mac_tell {m n : Nat → Nat} (hm : ∀ i, i < 6 → m i < 256) (hn : ∀ i, i < 6 → n i < 256) : (prM m 6 = prM n 6) ↔ same6 m n = true := by
  unfold same6
  rw [decide_eq_true_iff]
  constructor
  · intro h
    rw [prM_list, prM_list] at h
    simp only [List.cons.injEq, and_true, true_and] at h
    obtain ⟨a0, b0, a1, b1, a2, b2, a3, b3, a4, b4, a5, b5⟩ := h
    exact ⟨byte_tell (hm 0 (by omega)) (hn 0 (by omega)) a0 b0, byte_tell (hm 1 (by omega)) (hn 1 (by omega)) a1 b1, byte_tell (hm 2 (by omega)) (hn 2 (by omega)) a2 b2, byte_tell (hm 3 (by omega)) (hn 3 (by omega)) a3 b3, byte_tell (hm 4 (by omega)) (hn 4 (by omega)) a4 b4, byte_tell (hm 5 (by omega)) (hn 5 (by omega)) a5 b5⟩
  · rintro ⟨h0, h1, h2, h3, h4, h5⟩
    rw [prM_list, prM_list, h0, h1, h2, h3, h4, h5]
-- strings compared
theorem txB_inj {A B : List Nat} (hA : ∀ c ∈ A, c < 256) (hB : ∀ c ∈ B, c < 256) : txB A = txB B ↔ A = B :=
  ⟨fun h => by rw [← txB_drp hA, ← txB_drp hB, h], fun h => by rw [h]⟩
theorem txB_beq {A B : List Nat} (hA : ∀ c ∈ A, c < 256) (hB : ∀ c ∈ B, c < 256) {b : Bool} (h : A = B ↔ b = true) : ((txB A).toList == (txB B).toList) = b := by
  refine Bool.eq_iff_iff.2 ?_
  rw [beq_iff_eq, ← h, ← txB_inj hA hB]
  constructor
  · intro e
    rw [ByteArray.toList_eq, ByteArray.toList_eq] at e
    have : (txB A).data = (txB B).data := Array.toList_inj.1 e
    exact congrArg ByteArray.mk this
  · intro e; rw [e]
theorem prPF_chr {p : PV} (h : vpE p = 0) (hx : ∀ i, i < 16 → p.x i < 256) : ∀ c ∈ prPF p, c < 256 := fun c hc => by
  have n1 := vp_n h
  unfold prPF at hc
  rcases List.mem_append.1 hc with hc | hc
  · exact (prIP_chr hx c hc).1
  · rcases List.mem_cons.1 hc with hc | hc
    · subst hc; decide
    · exact dec3_lt (by omega) c hc
theorem mac_beq {m n : Nat → Nat} (hm : ∀ i, i < 6 → m i < 256) (hn : ∀ i, i < 6 → n i < 256) : ((txB (prM m 6)).toList == (txB (prM n 6)).toList) = same6 m n :=
  txB_beq (prM_lt hm 6 (Nat.le_refl _)) (prM_lt hn 6 (Nat.le_refl _)) (mac_tell hm hn)
end Go.Proofs.YteldiggaooeeeaaGreatDoor
