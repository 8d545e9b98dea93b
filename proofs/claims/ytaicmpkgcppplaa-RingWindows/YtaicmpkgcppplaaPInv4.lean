/-
  Who stands where, kept: Drain, Arrive.
-/
import Derived.Test.YtaicmpkgcppplaaPInv3
namespace Go.Proofs.Ytaicmpkgcppplaa

variable {s : PS}
theorem PInv.drain (h : PInv s) {i b : Nat} {rest : List Nat} (hx : s.tx = i :: rest) : PInv (s.drained i b rest) := by
  have hnd := h.nd
  rw [hx] at hnd
  have hnd' : (i :: (s.fr ++ (s.rx ++ rest))).Nodup := (List.Perm.nodup_iff (by
    rw [← List.append_assoc, ← List.append_assoc]; exact List.perm_middle)).1 hnd
  have hN : ((s.fr ++ [i]) ++ (s.rx ++ rest)).Nodup := by
    refine (List.Perm.nodup_iff ?_).2 hnd'
    simp only [List.append_assoc, List.singleton_append]
    exact List.perm_middle
  rw [List.nodup_cons] at hnd'
  obtain ⟨hni, _⟩ := hnd'
  simp only [List.mem_append, not_or] at hni
  obtain ⟨a1, a2, a3⟩ := hni
  have a2' : ∀ n, i ∉ s.rx.drop n := fun n e => a2 (List.mem_of_mem_drop e)
  have a2'' : ∀ n, i ∉ s.rx.take n := fun n e => a2 (List.mem_of_mem_take e)
  have hip : i < s.pool := h.txlt i (by rw [hx]; simp)
  refine ⟨hN, fun x hx' => ?_, h.fl, fun j hj => ?_, fun j hj => ?_, fun j hj => ?_, fun j hj => ?_, fun j hj => ?_, h.ln⟩
  · have hx' : x ∈ (s.fr ++ [i]) ++ (s.rx ++ rest) := hx'
    simp only [List.mem_append, List.mem_singleton] at hx'
    rcases hx' with (q | q) | q | q
    · exact h.frlt x q
    · rw [q]; exact hip
    · exact h.rxlt x q
    · exact h.txlt x (by rw [hx]; exact List.mem_cons_of_mem _ q)
  · show updF s.pl i 1 j = 1 ↔ j ∈ s.fr ++ [i]
    by_cases e : j = i
    · subst e; simp [updF_same]
    · rw [updF_other _ _ _ e, h.p1 j hj]; simp [e]
  · show updF s.pl i 1 j = 2 ↔ j ∈ s.rx.drop s.filled
    by_cases e : j = i
    · subst e; simp [updF_same, a2' s.filled]
    · rw [updF_other _ _ _ e]; exact h.p2 j hj
  · show updF s.pl i 1 j = 3 ↔ j ∈ s.rx.take s.filled
    by_cases e : j = i
    · subst e; simp [updF_same, a2'' s.filled]
    · rw [updF_other _ _ _ e]; exact h.p3 j hj
  · show updF s.pl i 1 j = 5 ↔ j ∈ rest
    by_cases e : j = i
    · subst e; simp [updF_same, a3]
    · rw [updF_other _ _ _ e, h.p5 j hj, hx]; simp [e]
  · show 1 ≤ updF s.pl i 1 j ∧ updF s.pl i 1 j ≤ 5
    by_cases e : j = i
    · subst e; simp [updF_same]
    · rw [updF_other _ _ _ e]; exact h.pr j hj
theorem PInv.arrive (h : PInv s) {b : Nat} {fr : List Nat} (hk : s.filled < s.rx.length) (hn : fr.length ≤ s.size) : PInv (s.arrived s.rx[s.filled] b fr) := by
  obtain ⟨i, hi⟩ : ∃ i, i = s.rx[s.filled] := ⟨_, rfl⟩
  have htk : s.rx.take (s.filled + 1) = s.rx.take s.filled ++ [i] := by rw [hi, List.take_add_one, List.getElem?_eq_getElem hk]; rfl
  have hdr : s.rx.drop s.filled = i :: s.rx.drop (s.filled + 1) := by rw [hi]; exact List.drop_eq_getElem_cons hk
  have him : i ∈ s.rx := by rw [hi]; exact List.getElem_mem hk
  have hip : i < s.pool := h.rxlt i him
  have h2 : s.pl i = 2 := (h.p2 i hip).2 (by rw [hdr]; simp)
  have a1 : i ∉ s.fr := fun e => by have := (h.p1 i hip).2 e; omega
  have a3 : i ∉ s.tx := fun e => by have := (h.p5 i hip).2 e; omega
  have hrn : s.rx.Nodup := (List.nodup_append.1 (List.nodup_append.1 h.nd).2.1).1
  have a2 : i ∉ s.rx.drop (s.filled + 1) := by
    have : (s.rx.drop s.filled).Nodup := hrn.sublist (List.drop_sublist _ _)
    rw [hdr, List.nodup_cons] at this
    exact this.1
  rw [← hi]
  refine ⟨h.nd, h.lt, hk, fun j hj => ?_, fun j hj => ?_, fun j hj => ?_, fun j hj => ?_, fun j hj => ?_, fun j hj => ?_⟩
  · show updF s.pl i 3 j = 1 ↔ j ∈ s.fr
    by_cases e : j = i
    · subst e; simp [updF_same, a1]
    · rw [updF_other _ _ _ e]; exact h.p1 j hj
  · show updF s.pl i 3 j = 2 ↔ j ∈ s.rx.drop (s.filled + 1)
    by_cases e : j = i
    · subst e; simp [updF_same, a2]
    · rw [updF_other _ _ _ e, h.p2 j hj, hdr]; simp [e]
  · show updF s.pl i 3 j = 3 ↔ j ∈ s.rx.take (s.filled + 1)
    by_cases e : j = i
    · subst e; rw [htk]; simp [updF_same]
    · rw [updF_other _ _ _ e, h.p3 j hj, htk]; simp [e]
  · show updF s.pl i 3 j = 5 ↔ j ∈ s.tx
    by_cases e : j = i
    · subst e; simp [updF_same, a3]
    · rw [updF_other _ _ _ e]; exact h.p5 j hj
  · show 1 ≤ updF s.pl i 3 j ∧ updF s.pl i 3 j ≤ 5
    by_cases e : j = i
    · subst e; simp [updF_same]
    · rw [updF_other _ _ _ e]; exact h.pr j hj
  · show updF s.ln i fr.length j ≤ s.size
    by_cases e : j = i
    · subst e; rw [updF_same]; exact hn
    · rw [updF_other _ _ _ e]; exact h.ln j hj
end Go.Proofs.Ytaicmpkgcppplaa
