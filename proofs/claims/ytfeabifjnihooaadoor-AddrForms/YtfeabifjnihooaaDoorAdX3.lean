/-
  Layer 4: one group read, case by case; the groups' cells behind it.
-/
import Derived.Test.YtfeabifjnihooaaDoorAdX2
namespace Go.Proofs.YtfeabifjnihooaaDoor
open Go.RowKit

section
variable {s : ByteArray} {X : SX} {q : Nat} (hq : scP s hxB X.p = q)
include hq
theorem grp_none (h : q = X.p) : grp s X = (X.fail (hrE s X.p).1 (hrE s X.p).2, true) := by
  unfold grp grpq
  rw [hq, if_pos (by simp [h])]
theorem grp_many (hne : q ≠ X.p) (t : Bool) (ht : tlB s X q = t) (h : rmN X < X.g.length + (if t then 2 else 1)) : grp s X = (X.fail 44 X.p, true) := by
  unfold grp grpq
  rw [hq, if_neg (by simp [hne]), ht, if_pos (by simp only [decide_eq_true_eq]; exact h)]
theorem grp_tailE (hne : q ≠ X.p) (ht : tlB s X q = true) (h : ¬ rmN X < X.g.length + 2) {e : Nat × Nat} (hd : dtd s 4 X.p [] = .inr e) : grp s X = (X.fail e.1 e.2, true) := by
  unfold grp grpq
  rw [hq, if_neg (by simp [hne]), ht, if_neg (by simp only [decide_eq_true_eq]; exact h), if_pos rfl, hd]
theorem grp_tail (hne : q ≠ X.p) (ht : tlB s X q = true) (h : ¬ rmN X < X.g.length + 2) {l : List Nat} (hd : dtd s 4 X.p [] = .inl l) : grp s X = ({ X with g := X.g ++ [256 * l.getD 0 0 + l.getD 1 0, 256 * l.getD 2 0 + l.getD 3 0], p := s.size }, true) := by
  unfold grp grpq
  rw [hq, if_neg (by simp [hne]), ht, if_neg (by simp only [decide_eq_true_eq]; exact h), if_pos rfl, hd]
theorem grp_long (hne : q ≠ X.p) (ht : tlB s X q = false) (h : ¬ rmN X < X.g.length + 1) (h4 : 4 < q - X.p) : grp s X = (X.fail 43 X.p, true) := by
  unfold grp grpq
  rw [hq, if_neg (by simp [hne]), ht, if_neg (by simp only [decide_eq_true_eq]; exact h), if_neg (by decide), if_pos (by simp only [decide_eq_true_eq]; exact h4)]
theorem grp_one (hne : q ≠ X.p) (ht : tlB s X q = false) (h : ¬ rmN X < X.g.length + 1) (h4 : ¬ 4 < q - X.p) : grp s X = ({ X with g := X.g ++ [hxN s X.p (q - X.p)], p := q }, q == s.size) := by
  unfold grp grpq
  rw [hq, if_neg (by simp [hne]), ht, if_neg (by simp only [decide_eq_true_eq]; exact h), if_neg (by decide), if_neg (by simp only [decide_eq_true_eq]; exact h4)]
end
theorem SX.fail_at {X : SX} (h : X.er = 0) (e a : Nat) : X.fail e a = { X with er := e, pl := a } := by unfold SX.fail; rw [h]; rfl
/-- does a tail stand at q? -/
theorem tl_eq {s : ByteArray} {X : SX} {q : Nat} (hh : SxHd X) : tlB s X q = ((decide (q < s.size) && sB s q == 46) && (decide (0 < X.g.length) || decide (0 ≤ X.gap))) := by
  unfold tlB
  congr 1
  unfold SxHd at hh
  rw [Bool.eq_iff_iff]
  simp only [decide_eq_true_eq, Bool.or_eq_true]
  exact hh
theorem gsC_byte (X : SX) (i : Nat) (hi : i < 16) : (gsC X)[i]? = some (.int .u8 (gb X.g i : Nat)) := by
  rcases lt16' hi with rfl | rfl | rfl | rfl | rfl | rfl | rfl | rfl | rfl | rfl | rfl | rfl | rfl | rfl | rfl | rfl <;> rfl
theorem gsC_one (X : SX) (n v q : Nat) (hn : X.g.length = n) (h : n ≤ 7) : (((gsC X).setIfInBounds (2 * n) (.int .u8 (v / 256 : Nat))).setIfInBounds (2 * n + 1) (.int .u8 (v % 256 : Nat))).setIfInBounds 16 (.int .i64 (n + 1 : Nat)) = gsC { X with g := X.g ++ [v], p := q } := by
  rcases (show n = 0 ∨ n = 1 ∨ n = 2 ∨ n = 3 ∨ n = 4 ∨ n = 5 ∨ n = 6 ∨ n = 7 by omega) with rfl | rfl | rfl | rfl | rfl | rfl | rfl | rfl <;> simp [gsC, gb_snoc, hn]
theorem gsC_tail (X : SX) (n q : Nat) (hn : X.g.length = n) (h : n ≤ 6) (l : List Nat) (hl : l.length = 4) (hb : ∀ i, l.getD i 0 < 256) : wrL ((gsC X).setIfInBounds 16 (.int .i64 (n + 2 : Nat))) (2 * n) l = gsC { X with g := X.g ++ [256 * l.getD 0 0 + l.getD 1 0, 256 * l.getD 2 0 + l.getD 3 0], p := q } := by
  obtain ⟨a, b, c, d, rfl⟩ := list4 hl
  have hb1 : b < 256 := hb 1
  have hb3 : d < 256 := hb 3
  have e1 : (256 * a + b) / 256 = a := by omega
  have e2 : (256 * a + b) % 256 = b := by omega
  have e3 : (256 * c + d) / 256 = c := by omega
  have e4 : (256 * c + d) % 256 = d := by omega
  have e5 : ∀ u v : Nat, X.g ++ [u, v] = (X.g ++ [u]) ++ [v] := fun u v => by simp
  show wrL _ _ _ = gsC { X with g := X.g ++ [256 * a + b, 256 * c + d], p := q }
  rw [e5]
  obtain ⟨g1, hg1⟩ : ∃ g1, g1 = X.g ++ [256 * a + b] := ⟨_, rfl⟩
  have hl1 : g1.length = n + 1 := by rw [hg1]; simp [hn]
  have hs : ∀ i, gb g1 i = if i = 2 * n then a else if i = 2 * n + 1 then b else gb X.g i := fun i => by rw [hg1, gb_snoc, hn, e1, e2]
  rw [← hg1]
  clear hb e5 hg1 hl e1 e2
  rcases (show n = 0 ∨ n = 1 ∨ n = 2 ∨ n = 3 ∨ n = 4 ∨ n = 5 ∨ n = 6 by omega) with rfl | rfl | rfl | rfl | rfl | rfl | rfl <;> simp [gsC, gb_snoc, hs, hl1, wrL, List.range_succ, e3, e4]
end Go.Proofs.YtfeabifjnihooaaDoor
