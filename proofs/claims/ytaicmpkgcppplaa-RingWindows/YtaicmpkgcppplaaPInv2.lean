/-
  Who stands where, kept: Release, Send.
-/
import Derived.Test.YtaicmpkgcppplaaPInv
namespace Go.Proofs.Ytaicmpkgcppplaa

variable {s : PS}
theorem PInv.apart (h : PInv s) {k : Nat} (hk : k < s.pool) (h4 : s.pl k = 4) : k ∉ s.fr ∧ k ∉ s.rx ∧ k ∉ s.tx := by
  refine ⟨fun e => ?_, fun e => ?_, fun e => ?_⟩
  · have := (h.p1 k hk).2 e; omega
  · rw [← List.take_append_drop s.filled s.rx] at e
    rcases List.mem_append.1 e with e | e
    · have := (h.p3 k hk).2 e; omega
    · have := (h.p2 k hk).2 e; omega
  · have := (h.p5 k hk).2 e; omega
theorem PInv.release (h : PInv s) {k : Nat} (hk : k < s.pool) (h4 : s.pl k = 4) : PInv { s with pl := updF s.pl k 1, fr := s.fr ++ [k] } := by
  obtain ⟨a1, a2, a3⟩ := h.apart hk h4
  have hnd := h.nd
  have a2' : ∀ n, k ∉ s.rx.drop n := fun n e => a2 (List.mem_of_mem_drop e)
  have a2'' : ∀ n, k ∉ s.rx.take n := fun n e => a2 (List.mem_of_mem_take e)
  refine ⟨?_, ?_, h.fl, fun i hi => ?_, fun i hi => ?_, fun i hi => ?_, fun i hi => ?_, fun i hi => ?_, h.ln⟩
  · show ((s.fr ++ [k]) ++ (s.rx ++ s.tx)).Nodup
    have : (k :: (s.fr ++ (s.rx ++ s.tx))).Nodup := List.nodup_cons.2 ⟨by simp [a1, a2, a3], hnd⟩
    refine (List.Perm.nodup_iff ?_).2 this
    simp only [List.append_assoc, List.singleton_append]
    exact List.perm_middle
  · intro x hx
    have hx : x ∈ (s.fr ++ [k]) ++ (s.rx ++ s.tx) := hx
    rcases List.mem_append.1 hx with hx | hx
    · rcases List.mem_append.1 hx with hx | hx
      · exact h.frlt x hx
      · rw [List.mem_singleton.1 hx]; exact hk
    · exact h.lt x (List.mem_append_right _ hx)
  · by_cases e : i = k
    · subst e; simp [updF_same]
    · simp [updF_other _ _ _ e, h.p1 i hi, e]
  · by_cases e : i = k
    · subst e; simp [updF_same, a2' s.filled]
    · simp only [updF_other _ _ _ e]; exact h.p2 i hi
  · by_cases e : i = k
    · subst e; simp [updF_same, a2'' s.filled]
    · simp only [updF_other _ _ _ e]; exact h.p3 i hi
  · by_cases e : i = k
    · subst e; simp [updF_same, a3]
    · simp only [updF_other _ _ _ e]; exact h.p5 i hi
  · by_cases e : i = k
    · subst e; simp [updF_same]
    · simp only [updF_other _ _ _ e]; exact h.pr i hi
theorem PInv.send (h : PInv s) {k n : Nat} (hk : k < s.pool) (h4 : s.pl k = 4) (hn : n ≤ s.size) : PInv { s with pl := updF s.pl k 5, ln := updF s.ln k n, tx := s.tx ++ [k] } := by
  obtain ⟨a1, a2, a3⟩ := h.apart hk h4
  have hnd := h.nd
  have a2' : ∀ n, k ∉ s.rx.drop n := fun n e => a2 (List.mem_of_mem_drop e)
  have a2'' : ∀ n, k ∉ s.rx.take n := fun n e => a2 (List.mem_of_mem_take e)
  refine ⟨?_, ?_, h.fl, fun i hi => ?_, fun i hi => ?_, fun i hi => ?_, fun i hi => ?_, fun i hi => ?_, fun i hi => ?_⟩
  · show (s.fr ++ (s.rx ++ (s.tx ++ [k]))).Nodup
    have : (k :: (s.fr ++ (s.rx ++ s.tx))).Nodup := List.nodup_cons.2 ⟨by simp [a1, a2, a3], hnd⟩
    refine (List.Perm.nodup_iff ?_).2 this
    have e : s.fr ++ (s.rx ++ (s.tx ++ [k])) = (s.fr ++ (s.rx ++ s.tx)) ++ [k] := by simp
    rw [e]
    exact List.perm_append_comm
  · intro x hx
    have hx : x ∈ s.fr ++ (s.rx ++ (s.tx ++ [k])) := hx
    simp only [List.mem_append, List.mem_singleton] at hx
    rcases hx with hx | hx | hx | hx
    · exact h.frlt x hx
    · exact h.rxlt x hx
    · exact h.txlt x hx
    · rw [hx]; exact hk
  · by_cases e : i = k
    · subst e; simp [updF_same, a1]
    · simp only [updF_other _ _ _ e]; exact h.p1 i hi
  · by_cases e : i = k
    · subst e; simp [updF_same, a2' s.filled]
    · simp only [updF_other _ _ _ e]; exact h.p2 i hi
  · by_cases e : i = k
    · subst e; simp [updF_same, a2'' s.filled]
    · simp only [updF_other _ _ _ e]; exact h.p3 i hi
  · by_cases e : i = k
    · subst e; simp [updF_same]
    · simp [updF_other _ _ _ e, h.p5 i hi, e]
  · by_cases e : i = k
    · subst e; simp [updF_same]
    · simp only [updF_other _ _ _ e]; exact h.pr i hi
  · by_cases e : i = k
    · subst e; simp only [updF_same]; exact hn
    · simp only [updF_other _ _ _ e]; exact h.ln i hi
end Go.Proofs.Ytaicmpkgcppplaa
