/-
  Who stands where, kept: Take, Poll.
-/
import Derived.Test.YtaicmpkgcppplaaPInv2
namespace Go.Proofs.Ytaicmpkgcppplaa

variable {s : PS}
theorem PInv.take (h : PInv s) {i b : Nat} {rest : List Nat} (hx : s.fr = i :: rest) : PInv (s.taken i b rest) := by
  have hnd := h.nd
  rw [hx, List.cons_append, List.nodup_cons] at hnd
  obtain ⟨hni, hnd⟩ := hnd
  simp only [List.mem_append, not_or] at hni
  obtain ⟨a1, a2, a3⟩ := hni
  have a2' : ∀ n, i ∉ s.rx.drop n := fun n e => a2 (List.mem_of_mem_drop e)
  have a2'' : ∀ n, i ∉ s.rx.take n := fun n e => a2 (List.mem_of_mem_take e)
  refine ⟨hnd, fun x hx' => h.lt x (by rw [hx]; exact List.mem_cons_of_mem _ hx'), h.fl, fun j hj => ?_, fun j hj => ?_, fun j hj => ?_, fun j hj => ?_, fun j hj => ?_, h.ln⟩
  · show updF s.pl i 4 j = 1 ↔ j ∈ rest
    by_cases e : j = i
    · subst e; simp [updF_same, a1]
    · rw [updF_other _ _ _ e, h.p1 j hj, hx]; simp [e]
  · show updF s.pl i 4 j = 2 ↔ j ∈ s.rx.drop s.filled
    by_cases e : j = i
    · subst e; simp [updF_same, a2' s.filled]
    · rw [updF_other _ _ _ e]; exact h.p2 j hj
  · show updF s.pl i 4 j = 3 ↔ j ∈ s.rx.take s.filled
    by_cases e : j = i
    · subst e; simp [updF_same, a2'' s.filled]
    · rw [updF_other _ _ _ e]; exact h.p3 j hj
  · show updF s.pl i 4 j = 5 ↔ j ∈ s.tx
    by_cases e : j = i
    · subst e; simp [updF_same, a3]
    · rw [updF_other _ _ _ e]; exact h.p5 j hj
  · show 1 ≤ updF s.pl i 4 j ∧ updF s.pl i 4 j ≤ 5
    by_cases e : j = i
    · subst e; simp [updF_same]
    · rw [updF_other _ _ _ e]; exact h.pr j hj
theorem PInv.poll (h : PInv s) {i b m : Nat} {rest : List Nat} (hx : s.rx = i :: rest) (hm : s.filled = m + 1) : PInv (s.polled i b rest m) := by
  have hnd := h.nd
  have hfl := h.fl
  rw [hx] at hnd hfl
  have hnd' : (i :: (s.fr ++ (rest ++ s.tx))).Nodup := (List.Perm.nodup_iff (by rw [List.cons_append]; exact List.perm_middle)).1 hnd
  rw [List.nodup_cons] at hnd'
  obtain ⟨hni, hnd'⟩ := hnd'
  simp only [List.mem_append, not_or] at hni
  obtain ⟨a1, a2, a3⟩ := hni
  have a2' : ∀ n, i ∉ rest.drop n := fun n e => a2 (List.mem_of_mem_drop e)
  have a2'' : ∀ n, i ∉ rest.take n := fun n e => a2 (List.mem_of_mem_take e)
  refine ⟨hnd', fun x hx' => ?_, (show m ≤ rest.length by rw [hm] at hfl; simpa using hfl), fun j hj => ?_, fun j hj => ?_, fun j hj => ?_, fun j hj => ?_, fun j hj => ?_, h.ln⟩
  · have hx' : x ∈ s.fr ++ (rest ++ s.tx) := hx'
    refine h.lt x ?_
    rw [hx]
    simp only [List.mem_append, List.mem_cons] at hx' ⊢
    rcases hx' with q | q | q
    · exact .inl q
    · exact .inr (.inl (.inr q))
    · exact .inr (.inr q)
  · show updF s.pl i 4 j = 1 ↔ j ∈ s.fr
    by_cases e : j = i
    · subst e; simp [updF_same, a1]
    · rw [updF_other _ _ _ e]; exact h.p1 j hj
  · show updF s.pl i 4 j = 2 ↔ j ∈ rest.drop m
    by_cases e : j = i
    · subst e; simp [updF_same, a2' m]
    · rw [updF_other _ _ _ e, h.p2 j hj, hx, hm]; simp
  · show updF s.pl i 4 j = 3 ↔ j ∈ rest.take m
    by_cases e : j = i
    · subst e; simp [updF_same, a2'' m]
    · rw [updF_other _ _ _ e, h.p3 j hj, hx, hm]; simp [e]
  · show updF s.pl i 4 j = 5 ↔ j ∈ s.tx
    by_cases e : j = i
    · subst e; simp [updF_same, a3]
    · rw [updF_other _ _ _ e]; exact h.p5 j hj
  · show 1 ≤ updF s.pl i 4 j ∧ updF s.pl i 4 j ≤ 5
    by_cases e : j = i
    · subst e; simp [updF_same]
    · rw [updF_other _ _ _ e]; exact h.pr j hj
end Go.Proofs.Ytaicmpkgcppplaa
