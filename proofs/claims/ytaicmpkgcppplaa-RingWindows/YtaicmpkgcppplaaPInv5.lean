/-
  Who stands where, kept: Refill.
-/
import Derived.Test.YtaicmpkgcppplaaPInv4
namespace Go.Proofs.Ytaicmpkgcppplaa

variable {s : PS}
theorem PInv.post (h : PInv s) {i : Nat} {rest : List Nat} (hx : s.fr = i :: rest) : PInv { s with fr := rest, pl := updF s.pl i 2, rx := s.rx ++ [i] } := by
  have hnd := h.nd
  rw [hx, List.cons_append] at hnd
  have hN : (rest ++ ((s.rx ++ [i]) ++ s.tx)).Nodup := by
    refine (List.Perm.nodup_iff ?_).2 hnd
    have e : rest ++ ((s.rx ++ [i]) ++ s.tx) = (rest ++ s.rx) ++ (i :: s.tx) := by simp
    rw [e, ← List.append_assoc rest s.rx s.tx]
    exact List.perm_middle
  rw [List.nodup_cons] at hnd
  obtain ⟨hni, _⟩ := hnd
  simp only [List.mem_append, not_or] at hni
  obtain ⟨a1, a2, a3⟩ := hni
  have a2'' : ∀ n, i ∉ s.rx.take n := fun n e => a2 (List.mem_of_mem_take e)
  have hip : i < s.pool := h.frlt i (by rw [hx]; simp)
  have hfl := h.fl
  have htk : (s.rx ++ [i]).take s.filled = s.rx.take s.filled := List.take_append_of_le_length hfl
  have hdr : (s.rx ++ [i]).drop s.filled = s.rx.drop s.filled ++ [i] := List.drop_append_of_le_length hfl
  refine ⟨hN, fun x hx' => ?_, (show s.filled ≤ (s.rx ++ [i]).length by simp; omega), fun j hj => ?_, fun j hj => ?_, fun j hj => ?_, fun j hj => ?_, fun j hj => ?_, h.ln⟩
  · have hx' : x ∈ rest ++ ((s.rx ++ [i]) ++ s.tx) := hx'
    simp only [List.mem_append, List.mem_singleton] at hx'
    rcases hx' with q | (q | q) | q
    · exact h.frlt x (by rw [hx]; exact List.mem_cons_of_mem _ q)
    · exact h.rxlt x q
    · rw [q]; exact hip
    · exact h.txlt x q
  · show updF s.pl i 2 j = 1 ↔ j ∈ rest
    by_cases e : j = i
    · subst e; simp [updF_same, a1]
    · rw [updF_other _ _ _ e, h.p1 j hj, hx]; simp [e]
  · show updF s.pl i 2 j = 2 ↔ j ∈ (s.rx ++ [i]).drop s.filled
    rw [hdr]
    by_cases e : j = i
    · subst e; simp [updF_same]
    · rw [updF_other _ _ _ e, h.p2 j hj]; simp [e]
  · show updF s.pl i 2 j = 3 ↔ j ∈ (s.rx ++ [i]).take s.filled
    rw [htk]
    by_cases e : j = i
    · subst e; simp [updF_same, a2'' s.filled]
    · rw [updF_other _ _ _ e]; exact h.p3 j hj
  · show updF s.pl i 2 j = 5 ↔ j ∈ s.tx
    by_cases e : j = i
    · subst e; simp [updF_same, a3]
    · rw [updF_other _ _ _ e]; exact h.p5 j hj
  · show 1 ≤ updF s.pl i 2 j ∧ updF s.pl i 2 j ≤ 5
    by_cases e : j = i
    · subst e; simp [updF_same]
    · rw [updF_other _ _ _ e]; exact h.pr j hj
theorem PInv.refill (h : PInv s) : ∀ k, k ≤ s.fr.length → PInv (s.refilled k)
  | 0, _ => by rw [PS.refilled_zero]; exact h
  | k + 1, hk => by
    have h1 := PInv.refill h k (by omega)
    rw [← PS.refilled_succ s k (by omega)]
    exact h1.post (i := s.fr[k]) (rest := s.fr.drop (k + 1)) (List.drop_eq_getElem_cons (by omega))
end Go.Proofs.Ytaicmpkgcppplaa
