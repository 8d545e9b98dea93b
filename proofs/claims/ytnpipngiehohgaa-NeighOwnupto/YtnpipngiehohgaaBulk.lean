/-
  What the bound on the bulk of what comes in gives: bounds on the lengths of slices of integers.
-/
import Derived.Test.YtnpipngiehohgaaRows
import Derived.ChangeSlices
namespace Go.Proofs.Ytnpipngiehohgaa
theorem bulk_pos {H : Type} (d : DataW H) : 1 ≤ Rows.uptoBulk d := by
  cases d with
  | lit l => cases l <;> simp [Rows.uptoBulk]
  | nil => simp [Rows.uptoBulk]
  | ptr d => simp [Rows.uptoBulk]
  | slice elems spare => simp [Rows.uptoBulk]
  | agg parts => simp [Rows.uptoBulk]
  | iface t d => simp [Rows.uptoBulk]
  | map entries => simp [Rows.uptoBulk]
  | held h => simp [Rows.uptoBulk]
theorem bulk_len {H : Type} (l : List (DataW H)) : l.length ≤ Rows.uptoBulkAll l := by
  induction l with
  | nil => simp [Rows.uptoBulkAll]
  | cons x r ih => have := bulk_pos x; simp only [Rows.uptoBulkAll, List.length_cons]; omega
theorem bulk_row {H : Type} {d : DataW H} {p q : List MemPlace} {k : IntKind} {zs : List Int} {len cap : Nat} (hl : len ≤ cap) (hz : zs.length = cap) (hx : (d, p) = (.slice (ChangeShapes.lits k (zs.take len)) (ChangeShapes.lits k (zs.drop len)), q)) : cap ≤ Rows.uptoBulk d := by
  have e := (Prod.mk.inj hx).1
  subst e
  have h1 := bulk_len (H := H) (ChangeShapes.lits k (zs.take len))
  have h2 := bulk_len (H := H) (ChangeShapes.lits k (zs.drop len))
  have e1 : (ChangeShapes.lits (H := H) k (zs.take len)).length = len := by unfold ChangeShapes.lits; simp; omega
  have e2 : (ChangeShapes.lits (H := H) k (zs.drop len)).length = cap - len := by unfold ChangeShapes.lits; simp; omega
  rw [e1] at h1
  rw [e2] at h2
  simp only [Rows.uptoBulk]
  omega
theorem bulk_of {H : Type} {l : List (DataW H)} (hk : Rows.uptoSmall H l = true) : Rows.uptoBulkAll l ≤ 1048576 := of_decide_eq_true hk
end Go.Proofs.Ytnpipngiehohgaa
