/-
  Layer 14, RouteFull: the i-th of many routes; what a full table of them answers, in numbers.
-/
import Derived.Test.YtdjbfhllialinaaDoorRtEq
namespace Go.Proofs.YtdjbfhllialinaaDoor
open Go.RowKit Go.Maps

def fuX (i : Nat) : Nat → Nat := fun j => if j = 0 then 10 else if j = 1 then i / 200 else if j = 2 then i % 200 else 0
def fuR (i : Nat) : RV := ⟨⟨4, fuX i, 24⟩, ((i % 8 : Nat) : Int), 0, fun _ => 0⟩
theorem fu_chk : ∀ i, i < 257 → chkR (fuR i) = 0 := by decide +kernel
theorem fu_wf (i : Nat) (hi : i ≤ 256) : (fuR i).p.Wf := by
  refine ⟨(show (Lit.int .i64 4).wf = true by decide), (show (Lit.int .i64 24).wf = true by decide), fun j _ => ?_⟩
  show fuX i j < 256
  unfold fuX
  split
  · omega
  · split
    · omega
    · split <;> omega
theorem fu_eq (i j : Nat) : eqP (fuR i).p (fuR j).p = decide (i = j) := by
  rw [Bool.eq_iff_iff, decide_eq_true_eq]
  constructor
  · intro h
    unfold eqP at h
    simp only [Bool.and_eq_true] at h
    have h2 := (same16_iff _ _).1 h.1.2
    have a1 := h2 1 (by decide)
    have a2 := h2 2 (by decide)
    have b1 : i / 200 = j / 200 := a1
    have b2 : i % 200 = j % 200 := a2
    omega
  · rintro rfl
    exact eqP_refl _
theorem fnd_fu (n k : Nat) : fnd ((List.range n).map fuR) (fuR k).p = if k < n then some (fuR k) else none := by
  induction n with
  | zero => rfl
  | succ n ih =>
    rw [List.range_succ, List.map_append, List.map_cons, List.map_nil, fnd_snoc, ih, fu_eq]
    by_cases h1 : k < n
    · rw [if_pos h1, if_pos (show k < n + 1 by omega)]; rfl
    · rw [if_neg h1]
      by_cases h2 : n = k
      · subst h2
        simp
      · rw [if_neg (show ¬ k < n + 1 by omega)]
        simp [h2]
theorem fnd_n {R : List RV} (h : ∀ r ∈ R, r.p.n = 24) (p : PV) (hp : p.n ≠ 24) : fnd R p = none := by
  unfold fnd
  rw [List.find?_eq_none]
  intro r hr he
  unfold eqP at he
  simp only [Bool.and_eq_true, beq_iff_eq] at he
  exact hp (he.2 ▸ h r hr)
theorem fu_vld : ∀ i, i < 257 → vld 4 (fuX i) = true := by decide +kernel
theorem fu_el : ∀ i, i < 257 → eqP (elP 4 (fuX i) 8) (fuR i).p = true := by decide +kernel
/-- where all routes have 24 bits, the look-up of an address with 24 bits is that of its own prefix -/
theorem fIP_fu (R : List RV) (h : ∀ r ∈ R, r.p.n = 24) (i : Nat) (hi : i < 257) : fIP R 4 (fuX i) = fnd R (fuR i).p := by
  unfold fIP
  have hc : cnP 4 (fuX i) = 33 := by unfold cnP; rw [if_pos (fu_vld i hi)]; rfl
  rw [hc, show (List.range 33) = List.range 8 ++ ([8] ++ (List.range 24).map (· + 9)) from by decide, List.map_append, List.map_append, List.findSome?_append, List.findSome?_append]
  have e1 : ((List.range 8).map (elP 4 (fuX i))).findSome? (fnd R) = none := by
    rw [List.findSome?_eq_none_iff]
    intro p hp
    obtain ⟨k, hk, rfl⟩ := List.mem_map.1 hp
    refine fnd_n h _ ?_
    have hk' : k < 8 := by simpa using hk
    show ((bitV 4 - k : Nat) : Int) ≠ 24
    have : bitV 4 = 32 := rfl
    omega
  have e2 : (((List.range 24).map (· + 9)).map (elP 4 (fuX i))).findSome? (fnd R) = none := by
    rw [List.findSome?_eq_none_iff]
    intro p hp
    obtain ⟨k, hk, rfl⟩ := List.mem_map.1 hp
    obtain ⟨m, hm, rfl⟩ := List.mem_map.1 hk
    refine fnd_n h _ ?_
    show ((bitV 4 - (m + 9) : Nat) : Int) ≠ 24
    have : bitV 4 = 32 := rfl
    omega
  rw [e1, e2]
  simp only [List.map_cons, List.map_nil, List.findSome?_cons, List.findSome?_nil, Option.none_or]
  rw [fnd_congr R (fu_el i hi)]
  cases fnd R (fuR i).p <;> rfl
end Go.Proofs.YtdjbfhllialinaaDoor
