/-
  Clamp in numbers: what the greatest segment is behind it; twice is once; whether it may be is not another. No program here.
-/
import Derived.Test.YtldallgafpmcjaaDoorL9Spec
namespace Go.Proofs.YtldallgafpmcjaaDoor.L4
open I4 (flatI putOk putO okO)

theorem clO_false (m : Nat) (o : Int × List Nat) : clO false m o = o := by unfold clO; rw [if_neg (by simp)]
theorem toldV_le (o : Int × List Nat) (h : ∀ x ∈ o.2, x < 256) : toldV o ≤ 65535 := by
  have g := fun i => I4.getD_lt o.2 h i
  have h0 := g 0
  have h1 := g 1
  unfold toldV
  split <;> omega
theorem clO_tells (s : Bool) (m : Nat) (o : Int × List Nat) : tells (clO s m o) = tells o := by
  unfold clO
  split
  · rename_i h
    simp only [Bool.and_eq_true] at h
    have := h.1.1
    simp only [tells, Bool.and_eq_true, decide_eq_true_eq] at this
    simp [tells, this.1, this.2]
  · rfl
theorem clO_told (m : Nat) (o : Int × List Nat) (h : ∀ x ∈ o.2, x < 256) : toldV (clO true m o) = if m < toldV o then m else toldV o := by
  by_cases ht : tells o = true
  · by_cases hm : m < toldV o
    · have hle := toldV_le o h
      have e : clO true m o = (o.1, [m / 256, m % 256]) := by unfold clO; rw [if_pos (by simp [ht, hm])]
      have e2 : tells (o.1, [m / 256, m % 256]) = true := by rw [← e, clO_tells]; exact ht
      rw [if_pos hm, e]
      unfold toldV
      rw [e2, if_pos rfl]
      show m / 256 * 256 + m % 256 = m
      omega
    · rw [if_neg hm]
      unfold clO
      rw [if_neg (by simp [hm])]
  · have h0 : toldV o = 0 := by unfold toldV; rw [if_neg ht]
    have e : clO true m o = o := by unfold clO; rw [if_neg (by simp [ht])]
    rw [e, h0]
    simp
theorem mss_is (s : Bool) (m : Nat) (l : List (Int × List Nat)) : (mss (l.map (clO s m))).2 = (mss l).2 := by
  induction l with
  | nil => rfl
  | cons o l ih =>
    simp only [List.map_cons, mss, clO_tells]
    split
    · rfl
    · exact ih
theorem mss_cl (m : Nat) (l : List (Int × List Nat)) (h : ∀ o ∈ l, ∀ x ∈ o.2, x < 256) : (mss (l.map (clO true m))).1 = if m < (mss l).1 then m else (mss l).1 := by
  induction l with
  | nil => simp [mss]
  | cons o l ih =>
    simp only [List.map_cons, mss, clO_tells]
    split
    · exact clO_told m o (h o (List.mem_cons_self ..))
    · exact ih (fun p hp => h p (List.mem_cons_of_mem _ hp))
theorem mss_id (m : Nat) (l : List (Int × List Nat)) : l.map (clO false m) = l := by
  conv => rhs; rw [← List.map_id l]
  exact List.map_congr_left (fun o _ => clO_false m o)
/-- twice is once -/
theorem clO_idem (s : Bool) (m : Nat) (o : Int × List Nat) (h : ∀ x ∈ o.2, x < 256) : clO s m (clO s m o) = clO s m o := by
  cases s with
  | false => rw [clO_false, clO_false]
  | true =>
    have ht := clO_told m o h
    have hle : ¬ m < toldV (clO true m o) := by rw [ht]; split <;> omega
    have e : ∀ q : Int × List Nat, ¬ m < toldV q → clO true m q = q := fun q hq => by unfold clO; rw [if_neg (by simp [hq])]
    exact e _ hle
theorem clO_kind (s : Bool) (m : Nat) (o : Int × List Nat) : (clO s m o).1 = o.1 ∧ (clO s m o).2.length = o.2.length := by
  unfold clO
  split
  · rename_i h
    simp only [Bool.and_eq_true] at h
    have := h.1.1
    simp only [tells, Bool.and_eq_true, decide_eq_true_eq] at this
    exact ⟨rfl, by rw [this.2]; rfl⟩
  · exact ⟨rfl, rfl⟩
theorem cl_okO (s : Bool) (m : Nat) (l : List (Int × List Nat)) : (l.map (clO s m)).all okO = l.all okO := by
  rw [List.all_map]
  congr 1
  funext o
  simp only [Function.comp, okO, (clO_kind s m o).1, (clO_kind s m o).2]
theorem cl_lens (s : Bool) (m : Nat) (l : List (Int × List Nat)) : lensOk (l.map (clO s m)) = lensOk l := by
  unfold lensOk
  rw [List.all_map]
  congr 1
  funext o
  simp only [Function.comp, (clO_kind s m o).1, (clO_kind s m o).2]
theorem cl_flat (s : Bool) (m : Nat) (l : List (Int × List Nat)) : (flatI (l.map (clO s m))).length = (flatI l).length := by
  unfold flatI
  induction l with
  | nil => rfl
  | cons o l ih =>
    simp only [List.map_cons, I4.flatO_cons]
    rw [ih]
    show (clO s m o).2.length + 2 + _ = o.2.length + 2 + _
    rw [(clO_kind s m o).2]
theorem cl_put (s : Bool) (m : Nat) (l : List (Int × List Nat)) : putOk (l.map (clO s m)) = putOk l ∧ (putO (l.map (clO s m))).length = (putO l).length := by
  have e : putOk (l.map (clO s m)) = putOk l := by unfold putOk; rw [cl_okO, cl_flat]
  refine ⟨e, ?_⟩
  unfold putO
  rw [e]
  split
  · rw [I4.pad4_len, I4.pad4_len, cl_flat]
  · rfl
theorem cl_chk (s : Bool) (m : Nat) (t : T9) : tChk { t with os := t.os.map (clO s m) } = tChk t := by
  have e1 : tPutOk (t.os.map (clO s m)) = tPutOk t.os := by unfold tPutOk; rw [(cl_put s m t.os).1, cl_lens]
  have e2 := (cl_put s m t.os).2
  unfold tChk
  show (if tOkF t = true then (if tPutOk (t.os.map (clO s m)) = true then (if 65535 < 20 + (putO (t.os.map (clO s m))).length + t.d.length then 2 else 0) else 97) else 98) = _
  rw [e1, e2]
end Go.Proofs.YtldallgafpmcjaaDoor.L4
