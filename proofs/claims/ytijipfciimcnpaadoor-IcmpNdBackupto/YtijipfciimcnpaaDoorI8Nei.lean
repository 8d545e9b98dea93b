/-
  neighbours: it answers true.
-/
import Derived.Test.YtijipfciimcnpaaDoorI8Whom
import Derived.Test.YtijipfciimcnpaaDoorI8PutN
namespace Go.Proofs.YtijipfciimcnpaaDoor
open Go.RowKit
open I8 (M8)

def whD : List Nat := pnD 1 whX true whM
def whQ : M8 := ⟨6, 135, 0, rsB false false false, whD⟩
theorem wh_pn : pnE 1 6 whX false false false true whM = 0 := by decide
theorem whX_lt (i : Nat) (h : i < 16) : whX i < 256 := by
  have : i = 0 ∨ i = 1 ∨ i = 2 ∨ i = 3 ∨ i = 4 ∨ i = 5 ∨ i = 6 ∨ i = 7 ∨ i = 8 ∨ i = 9 ∨ i = 10 ∨ i = 11 ∨ i = 12 ∨ i = 13 ∨ i = 14 ∨ i = 15 := by omega
  rcases this with rfl | rfl | rfl | rfl | rfl | rfl | rfl | rfl | rfl | rfl | rfl | rfl | rfl | rfl | rfl | rfl <;> decide
theorem whM_lt (i : Nat) (h : i < 6) : whM i < 256 := by
  have : i = 0 ∨ i = 1 ∨ i = 2 ∨ i = 3 ∨ i = 4 ∨ i = 5 := by omega
  rcases this with rfl | rfl | rfl | rfl | rfl | rfl <;> decide
theorem wh_pd : I8.chk whQ = 0 ∧ pdE whQ = 0 ∧ pdC whQ = whN := put_parse_1 6 whX false false false true whM wh_pn
theorem ipL_lt (x : Nat → Nat) (n : Nat) (h : ∀ i, i < n → x i < 256) : ∀ z ∈ ipL x n, z < 256 := by
  intro z hz
  obtain ⟨i, hi, rfl⟩ := List.mem_map.1 hz
  exact h i (List.mem_range.1 hi)
theorem pnD_lt (l : Nat) (hl : l < 256) (x : Nat → Nat) (h : Bool) (m : Nat → Nat) (hx : ∀ i, i < 16 → x i < 256) (hm : ∀ i, i < 6 → m i < 256) : ∀ z ∈ pnD l x h m, z < 256 := by
  intro z hz
  unfold pnD at hz
  rcases List.mem_append.1 hz with hz | hz
  · exact ipL_lt x 16 hx z hz
  · cases h
    · simp at hz
    · simp only [if_true] at hz
      rcases List.mem_append.1 hz with hz | hz
      · simp at hz; omega
      · obtain ⟨i, hi, rfl⟩ := List.mem_map.1 hz
        exact hm i (List.mem_range.1 hi)
theorem put_ok {w' : World} {b : Nat} {M : M8} {g : Nat} (h : w'.ownsRow b 5 1 (.slice (some ⟨g, 0, none⟩) M.d.length M.d.length) M.d.length ((toI M.d).map (Value.int .u8))) (h256 : ∀ z ∈ M.d, z < 256) (hl : M.d.length ≤ 24) : MOk w' M (some ⟨g, 0, none⟩) M.d.length M.d.length := by
  obtain ⟨h1, h2, h3⟩ := owns_seg_at h
  exact ⟨rfl, h1, h256, Nat.le_refl _, h3, by omega⟩
end Go.Proofs.YtijipfciimcnpaaDoor
