/-
  PInv PInv2 PInv3 PInv4 PInv5 Port13 Port14 Port15 Port16 OpenOpsR RingAt RingHelp, one behind the other.
-/
import Derived.Test.YthknkfggpdhdbaaK3b
import Derived.Test.YthknkfggpdhdbaaK3a
import Derived.Deep.Slices
import Derived.ProofKit
import Derived.OpenShut
import Derived.Deep.Onto
namespace Go.Proofs.Ythknkfggpdhdbaa

theorem nodup_le : ∀ (n : Nat) (l : List Nat), l.Nodup → (∀ x ∈ l, x < n) → l.length ≤ n
  | 0, l, _, h => by
    cases l with
    | nil => simp
    | cons a t => exact absurd (h a (by simp)) (by omega)
  | n + 1, l, hd, h => by
    by_cases hm : n ∈ l
    · have h1 := nodup_le n (l.erase n) (hd.erase n) (fun x hx => by
        have h2 := h x (List.mem_of_mem_erase hx)
        have h3 : x ≠ n := fun e => by subst e; exact hd.not_mem_erase hx
        omega)
      rw [List.length_erase_of_mem hm] at h1
      omega
    · have h1 := nodup_le n l hd (fun x hx => by
        have h2 := h x hx
        have h3 : x ≠ n := fun e => hm (e ▸ hx)
        omega)
      omega
structure PInv (s : PS) : Prop where
  nd : (s.fr ++ (s.rx ++ s.tx)).Nodup
  lt : ∀ x ∈ s.fr ++ (s.rx ++ s.tx), x < s.pool
  fl : s.filled ≤ s.rx.length
  p1 : ∀ i, i < s.pool → (s.pl i = 1 ↔ i ∈ s.fr)
  p2 : ∀ i, i < s.pool → (s.pl i = 2 ↔ i ∈ s.rx.drop s.filled)
  p3 : ∀ i, i < s.pool → (s.pl i = 3 ↔ i ∈ s.rx.take s.filled)
  p5 : ∀ i, i < s.pool → (s.pl i = 5 ↔ i ∈ s.tx)
  pr : ∀ i, i < s.pool → 1 ≤ s.pl i ∧ s.pl i ≤ 5
  ln : ∀ i, i < s.pool → s.ln i ≤ s.size
theorem PInv.room {s : PS} (h : PInv s) {k : Nat} (hk : k < s.pool) (hn : s.pl k ≠ 1) : s.fr.length < s.pool := by
  have h1 : k ∉ s.fr := fun e => hn ((h.p1 k hk).2 e)
  have hnd : s.fr.Nodup := (List.nodup_append.1 h.nd).1
  have := nodup_le s.pool (k :: s.fr) (List.nodup_cons.2 ⟨h1, hnd⟩) (fun x hx => by
    rcases List.mem_cons.1 hx with rfl | hx
    · exact hk
    · exact h.lt x (List.mem_append_left _ hx))
  simp at this
  omega
theorem PInv.frlt {s : PS} (h : PInv s) : ∀ x ∈ s.fr, x < s.pool := fun x hx => h.lt x (List.mem_append_left _ hx)
theorem PInv.rxlt {s : PS} (h : PInv s) : ∀ x ∈ s.rx, x < s.pool := fun x hx => h.lt x (List.mem_append_right _ (List.mem_append_left _ hx))
theorem PInv.txlt {s : PS} (h : PInv s) : ∀ x ∈ s.tx, x < s.pool := fun x hx => h.lt x (List.mem_append_right _ (List.mem_append_right _ hx))
end Go.Proofs.Ythknkfggpdhdbaa
namespace Go.Proofs.Ythknkfggpdhdbaa

variable {s : PS}
theorem PInv.apart (h : PInv s) {k : Nat} (hk : k < s.pool) (h4 : s.pl k = 4) : k ∉ s.fr ∧ k ∉ s.rx ∧ k ∉ s.tx := by
  refine ⟨fun e => ?_, fun e => ?_, fun e => ?_⟩
  · have := (h.p1 k hk).2 e; omega
  · rw [← List.take_append_drop s.filled s.rx] at e
    rcases List.mem_append.1 e with e | e
    · have := (h.p3 k hk).2 e; omega
    · have := (h.p2 k hk).2 e; omega
  · have := (h.p5 k hk).2 e; omega
theorem PInv.release (h : PInv s) {k : Nat} (hk : k < s.pool) (h4 : s.pl k = 4) : PInv { s with pl := updF s.pl k 1, fr := s.fr ++ [k] } := by
  obtain ⟨a1, a2, a3⟩ := h.apart hk h4
  have hnd := h.nd
  have a2' : ∀ n, k ∉ s.rx.drop n := fun n e => a2 (List.mem_of_mem_drop e)
  have a2'' : ∀ n, k ∉ s.rx.take n := fun n e => a2 (List.mem_of_mem_take e)
  refine ⟨?_, ?_, h.fl, fun i hi => ?_, fun i hi => ?_, fun i hi => ?_, fun i hi => ?_, fun i hi => ?_, h.ln⟩
  · show ((s.fr ++ [k]) ++ (s.rx ++ s.tx)).Nodup
    have : (k :: (s.fr ++ (s.rx ++ s.tx))).Nodup := List.nodup_cons.2 ⟨by simp [a1, a2, a3], hnd⟩
    refine (List.Perm.nodup_iff ?_).2 this
    simp only [List.append_assoc, List.singleton_append]
    exact List.perm_middle
  · intro x hx
    have hx : x ∈ (s.fr ++ [k]) ++ (s.rx ++ s.tx) := hx
    rcases List.mem_append.1 hx with hx | hx
    · rcases List.mem_append.1 hx with hx | hx
      · exact h.frlt x hx
      · rw [List.mem_singleton.1 hx]; exact hk
    · exact h.lt x (List.mem_append_right _ hx)
  · by_cases e : i = k
    · subst e; simp [updF_same]
    · simp [updF_other _ _ _ e, h.p1 i hi, e]
  · by_cases e : i = k
    · subst e; simp [updF_same, a2' s.filled]
    · simp only [updF_other _ _ _ e]; exact h.p2 i hi
  · by_cases e : i = k
    · subst e; simp [updF_same, a2'' s.filled]
    · simp only [updF_other _ _ _ e]; exact h.p3 i hi
  · by_cases e : i = k
    · subst e; simp [updF_same, a3]
    · simp only [updF_other _ _ _ e]; exact h.p5 i hi
  · by_cases e : i = k
    · subst e; simp [updF_same]
    · simp only [updF_other _ _ _ e]; exact h.pr i hi
theorem PInv.send (h : PInv s) {k n : Nat} (hk : k < s.pool) (h4 : s.pl k = 4) (hn : n ≤ s.size) : PInv { s with pl := updF s.pl k 5, ln := updF s.ln k n, tx := s.tx ++ [k] } := by
  obtain ⟨a1, a2, a3⟩ := h.apart hk h4
  have hnd := h.nd
  have a2' : ∀ n, k ∉ s.rx.drop n := fun n e => a2 (List.mem_of_mem_drop e)
  have a2'' : ∀ n, k ∉ s.rx.take n := fun n e => a2 (List.mem_of_mem_take e)
  refine ⟨?_, ?_, h.fl, fun i hi => ?_, fun i hi => ?_, fun i hi => ?_, fun i hi => ?_, fun i hi => ?_, fun i hi => ?_⟩
  · show (s.fr ++ (s.rx ++ (s.tx ++ [k]))).Nodup
    have : (k :: (s.fr ++ (s.rx ++ s.tx))).Nodup := List.nodup_cons.2 ⟨by simp [a1, a2, a3], hnd⟩
    refine (List.Perm.nodup_iff ?_).2 this
    have e : s.fr ++ (s.rx ++ (s.tx ++ [k])) = (s.fr ++ (s.rx ++ s.tx)) ++ [k] := by simp
    rw [e]
    exact List.perm_append_comm
  · intro x hx
    have hx : x ∈ s.fr ++ (s.rx ++ (s.tx ++ [k])) := hx
    simp only [List.mem_append, List.mem_singleton] at hx
    rcases hx with hx | hx | hx | hx
    · exact h.frlt x hx
    · exact h.rxlt x hx
    · exact h.txlt x hx
    · rw [hx]; exact hk
  · by_cases e : i = k
    · subst e; simp [updF_same, a1]
    · simp only [updF_other _ _ _ e]; exact h.p1 i hi
  · by_cases e : i = k
    · subst e; simp [updF_same, a2' s.filled]
    · simp only [updF_other _ _ _ e]; exact h.p2 i hi
  · by_cases e : i = k
    · subst e; simp [updF_same, a2'' s.filled]
    · simp only [updF_other _ _ _ e]; exact h.p3 i hi
  · by_cases e : i = k
    · subst e; simp [updF_same]
    · simp [updF_other _ _ _ e, h.p5 i hi, e]
  · by_cases e : i = k
    · subst e; simp [updF_same]
    · simp only [updF_other _ _ _ e]; exact h.pr i hi
  · by_cases e : i = k
    · subst e; simp only [updF_same]; exact hn
    · simp only [updF_other _ _ _ e]; exact h.ln i hi
end Go.Proofs.Ythknkfggpdhdbaa
namespace Go.Proofs.Ythknkfggpdhdbaa

variable {s : PS}
theorem PInv.take (h : PInv s) {i b : Nat} {rest : List Nat} (hx : s.fr = i :: rest) : PInv (s.taken i b rest) := by
  have hnd := h.nd
  rw [hx, List.cons_append, List.nodup_cons] at hnd
  obtain ⟨hni, hnd⟩ := hnd
  simp only [List.mem_append, not_or] at hni
  obtain ⟨a1, a2, a3⟩ := hni
  have a2' : ∀ n, i ∉ s.rx.drop n := fun n e => a2 (List.mem_of_mem_drop e)
  have a2'' : ∀ n, i ∉ s.rx.take n := fun n e => a2 (List.mem_of_mem_take e)
  refine ⟨hnd, fun x hx' => h.lt x (by rw [hx]; exact List.mem_cons_of_mem _ hx'), h.fl, fun j hj => ?_, fun j hj => ?_, fun j hj => ?_, fun j hj => ?_, fun j hj => ?_, h.ln⟩
  · show updF s.pl i 4 j = 1 ↔ j ∈ rest
    by_cases e : j = i
    · subst e; simp [updF_same, a1]
    · rw [updF_other _ _ _ e, h.p1 j hj, hx]; simp [e]
  · show updF s.pl i 4 j = 2 ↔ j ∈ s.rx.drop s.filled
    by_cases e : j = i
    · subst e; simp [updF_same, a2' s.filled]
    · rw [updF_other _ _ _ e]; exact h.p2 j hj
  · show updF s.pl i 4 j = 3 ↔ j ∈ s.rx.take s.filled
    by_cases e : j = i
    · subst e; simp [updF_same, a2'' s.filled]
    · rw [updF_other _ _ _ e]; exact h.p3 j hj
  · show updF s.pl i 4 j = 5 ↔ j ∈ s.tx
    by_cases e : j = i
    · subst e; simp [updF_same, a3]
    · rw [updF_other _ _ _ e]; exact h.p5 j hj
  · show 1 ≤ updF s.pl i 4 j ∧ updF s.pl i 4 j ≤ 5
    by_cases e : j = i
    · subst e; simp [updF_same]
    · rw [updF_other _ _ _ e]; exact h.pr j hj
theorem PInv.poll (h : PInv s) {i b m : Nat} {rest : List Nat} (hx : s.rx = i :: rest) (hm : s.filled = m + 1) : PInv (s.polled i b rest m) := by
  have hnd := h.nd
  have hfl := h.fl
  rw [hx] at hnd hfl
  have hnd' : (i :: (s.fr ++ (rest ++ s.tx))).Nodup := (List.Perm.nodup_iff (by rw [List.cons_append]; exact List.perm_middle)).1 hnd
  rw [List.nodup_cons] at hnd'
  obtain ⟨hni, hnd'⟩ := hnd'
  simp only [List.mem_append, not_or] at hni
  obtain ⟨a1, a2, a3⟩ := hni
  have a2' : ∀ n, i ∉ rest.drop n := fun n e => a2 (List.mem_of_mem_drop e)
  have a2'' : ∀ n, i ∉ rest.take n := fun n e => a2 (List.mem_of_mem_take e)
  refine ⟨hnd', fun x hx' => ?_, (show m ≤ rest.length by rw [hm] at hfl; simpa using hfl), fun j hj => ?_, fun j hj => ?_, fun j hj => ?_, fun j hj => ?_, fun j hj => ?_, h.ln⟩
  · have hx' : x ∈ s.fr ++ (rest ++ s.tx) := hx'
    refine h.lt x ?_
    rw [hx]
    simp only [List.mem_append, List.mem_cons] at hx' ⊢
    rcases hx' with q | q | q
    · exact .inl q
    · exact .inr (.inl (.inr q))
    · exact .inr (.inr q)
  · show updF s.pl i 4 j = 1 ↔ j ∈ s.fr
    by_cases e : j = i
    · subst e; simp [updF_same, a1]
    · rw [updF_other _ _ _ e]; exact h.p1 j hj
  · show updF s.pl i 4 j = 2 ↔ j ∈ rest.drop m
    by_cases e : j = i
    · subst e; simp [updF_same, a2' m]
    · rw [updF_other _ _ _ e, h.p2 j hj, hx, hm]; simp
  · show updF s.pl i 4 j = 3 ↔ j ∈ rest.take m
    by_cases e : j = i
    · subst e; simp [updF_same, a2'' m]
    · rw [updF_other _ _ _ e, h.p3 j hj, hx, hm]; simp [e]
  · show updF s.pl i 4 j = 5 ↔ j ∈ s.tx
    by_cases e : j = i
    · subst e; simp [updF_same, a3]
    · rw [updF_other _ _ _ e]; exact h.p5 j hj
  · show 1 ≤ updF s.pl i 4 j ∧ updF s.pl i 4 j ≤ 5
    by_cases e : j = i
    · subst e; simp [updF_same]
    · rw [updF_other _ _ _ e]; exact h.pr j hj
end Go.Proofs.Ythknkfggpdhdbaa
namespace Go.Proofs.Ythknkfggpdhdbaa

variable {s : PS}
theorem PInv.drain (h : PInv s) {i b : Nat} {rest : List Nat} (hx : s.tx = i :: rest) : PInv (s.drained i b rest) := by
  have hnd := h.nd
  rw [hx] at hnd
  have hnd' : (i :: (s.fr ++ (s.rx ++ rest))).Nodup := (List.Perm.nodup_iff (by
    rw [← List.append_assoc, ← List.append_assoc]; exact List.perm_middle)).1 hnd
  have hN : ((s.fr ++ [i]) ++ (s.rx ++ rest)).Nodup := by
    refine (List.Perm.nodup_iff ?_).2 hnd'
    simp only [List.append_assoc, List.singleton_append]
    exact List.perm_middle
  rw [List.nodup_cons] at hnd'
  obtain ⟨hni, _⟩ := hnd'
  simp only [List.mem_append, not_or] at hni
  obtain ⟨a1, a2, a3⟩ := hni
  have a2' : ∀ n, i ∉ s.rx.drop n := fun n e => a2 (List.mem_of_mem_drop e)
  have a2'' : ∀ n, i ∉ s.rx.take n := fun n e => a2 (List.mem_of_mem_take e)
  have hip : i < s.pool := h.txlt i (by rw [hx]; simp)
  refine ⟨hN, fun x hx' => ?_, h.fl, fun j hj => ?_, fun j hj => ?_, fun j hj => ?_, fun j hj => ?_, fun j hj => ?_, h.ln⟩
  · have hx' : x ∈ (s.fr ++ [i]) ++ (s.rx ++ rest) := hx'
    simp only [List.mem_append, List.mem_singleton] at hx'
    rcases hx' with (q | q) | q | q
    · exact h.frlt x q
    · rw [q]; exact hip
    · exact h.rxlt x q
    · exact h.txlt x (by rw [hx]; exact List.mem_cons_of_mem _ q)
  · show updF s.pl i 1 j = 1 ↔ j ∈ s.fr ++ [i]
    by_cases e : j = i
    · subst e; simp [updF_same]
    · rw [updF_other _ _ _ e, h.p1 j hj]; simp [e]
  · show updF s.pl i 1 j = 2 ↔ j ∈ s.rx.drop s.filled
    by_cases e : j = i
    · subst e; simp [updF_same, a2' s.filled]
    · rw [updF_other _ _ _ e]; exact h.p2 j hj
  · show updF s.pl i 1 j = 3 ↔ j ∈ s.rx.take s.filled
    by_cases e : j = i
    · subst e; simp [updF_same, a2'' s.filled]
    · rw [updF_other _ _ _ e]; exact h.p3 j hj
  · show updF s.pl i 1 j = 5 ↔ j ∈ rest
    by_cases e : j = i
    · subst e; simp [updF_same, a3]
    · rw [updF_other _ _ _ e, h.p5 j hj, hx]; simp [e]
  · show 1 ≤ updF s.pl i 1 j ∧ updF s.pl i 1 j ≤ 5
    by_cases e : j = i
    · subst e; simp [updF_same]
    · rw [updF_other _ _ _ e]; exact h.pr j hj
theorem PInv.arrive (h : PInv s) {b : Nat} {fr : List Nat} (hk : s.filled < s.rx.length) (hn : fr.length ≤ s.size) : PInv (s.arrived s.rx[s.filled] b fr) := by
  obtain ⟨i, hi⟩ : ∃ i, i = s.rx[s.filled] := ⟨_, rfl⟩
  have htk : s.rx.take (s.filled + 1) = s.rx.take s.filled ++ [i] := by rw [hi, List.take_add_one, List.getElem?_eq_getElem hk]; rfl
  have hdr : s.rx.drop s.filled = i :: s.rx.drop (s.filled + 1) := by rw [hi]; exact List.drop_eq_getElem_cons hk
  have him : i ∈ s.rx := by rw [hi]; exact List.getElem_mem hk
  have hip : i < s.pool := h.rxlt i him
  have h2 : s.pl i = 2 := (h.p2 i hip).2 (by rw [hdr]; simp)
  have a1 : i ∉ s.fr := fun e => by have := (h.p1 i hip).2 e; omega
  have a3 : i ∉ s.tx := fun e => by have := (h.p5 i hip).2 e; omega
  have hrn : s.rx.Nodup := (List.nodup_append.1 (List.nodup_append.1 h.nd).2.1).1
  have a2 : i ∉ s.rx.drop (s.filled + 1) := by
    have : (s.rx.drop s.filled).Nodup := hrn.sublist (List.drop_sublist _ _)
    rw [hdr, List.nodup_cons] at this
    exact this.1
  rw [← hi]
  refine ⟨h.nd, h.lt, hk, fun j hj => ?_, fun j hj => ?_, fun j hj => ?_, fun j hj => ?_, fun j hj => ?_, fun j hj => ?_⟩
  · show updF s.pl i 3 j = 1 ↔ j ∈ s.fr
    by_cases e : j = i
    · subst e; simp [updF_same, a1]
    · rw [updF_other _ _ _ e]; exact h.p1 j hj
  · show updF s.pl i 3 j = 2 ↔ j ∈ s.rx.drop (s.filled + 1)
    by_cases e : j = i
    · subst e; simp [updF_same, a2]
    · rw [updF_other _ _ _ e, h.p2 j hj, hdr]; simp [e]
  · show updF s.pl i 3 j = 3 ↔ j ∈ s.rx.take (s.filled + 1)
    by_cases e : j = i
    · subst e; rw [htk]; simp [updF_same]
    · rw [updF_other _ _ _ e, h.p3 j hj, htk]; simp [e]
  · show updF s.pl i 3 j = 5 ↔ j ∈ s.tx
    by_cases e : j = i
    · subst e; simp [updF_same, a3]
    · rw [updF_other _ _ _ e]; exact h.p5 j hj
  · show 1 ≤ updF s.pl i 3 j ∧ updF s.pl i 3 j ≤ 5
    by_cases e : j = i
    · subst e; simp [updF_same]
    · rw [updF_other _ _ _ e]; exact h.pr j hj
  · show updF s.ln i fr.length j ≤ s.size
    by_cases e : j = i
    · subst e; rw [updF_same]; exact hn
    · rw [updF_other _ _ _ e]; exact h.ln j hj
end Go.Proofs.Ythknkfggpdhdbaa
namespace Go.Proofs.Ythknkfggpdhdbaa

variable {s : PS}
theorem PInv.post (h : PInv s) {i : Nat} {rest : List Nat} (hx : s.fr = i :: rest) : PInv { s with fr := rest, pl := updF s.pl i 2, rx := s.rx ++ [i] } := by
  have hnd := h.nd
  rw [hx, List.cons_append] at hnd
  have hN : (rest ++ ((s.rx ++ [i]) ++ s.tx)).Nodup := by
    refine (List.Perm.nodup_iff ?_).2 hnd
    have e : rest ++ ((s.rx ++ [i]) ++ s.tx) = (rest ++ s.rx) ++ (i :: s.tx) := by simp
    rw [e, ← List.append_assoc rest s.rx s.tx]
    exact List.perm_middle
  rw [List.nodup_cons] at hnd
  obtain ⟨hni, _⟩ := hnd
  simp only [List.mem_append, not_or] at hni
  obtain ⟨a1, a2, a3⟩ := hni
  have a2'' : ∀ n, i ∉ s.rx.take n := fun n e => a2 (List.mem_of_mem_take e)
  have hip : i < s.pool := h.frlt i (by rw [hx]; simp)
  have hfl := h.fl
  have htk : (s.rx ++ [i]).take s.filled = s.rx.take s.filled := List.take_append_of_le_length hfl
  have hdr : (s.rx ++ [i]).drop s.filled = s.rx.drop s.filled ++ [i] := List.drop_append_of_le_length hfl
  refine ⟨hN, fun x hx' => ?_, (show s.filled ≤ (s.rx ++ [i]).length by simp; omega), fun j hj => ?_, fun j hj => ?_, fun j hj => ?_, fun j hj => ?_, fun j hj => ?_, h.ln⟩
  · have hx' : x ∈ rest ++ ((s.rx ++ [i]) ++ s.tx) := hx'
    simp only [List.mem_append, List.mem_singleton] at hx'
    rcases hx' with q | (q | q) | q
    · exact h.frlt x (by rw [hx]; exact List.mem_cons_of_mem _ q)
    · exact h.rxlt x q
    · rw [q]; exact hip
    · exact h.txlt x q
  · show updF s.pl i 2 j = 1 ↔ j ∈ rest
    by_cases e : j = i
    · subst e; simp [updF_same, a1]
    · rw [updF_other _ _ _ e, h.p1 j hj, hx]; simp [e]
  · show updF s.pl i 2 j = 2 ↔ j ∈ (s.rx ++ [i]).drop s.filled
    rw [hdr]
    by_cases e : j = i
    · subst e; simp [updF_same]
    · rw [updF_other _ _ _ e, h.p2 j hj]; simp [e]
  · show updF s.pl i 2 j = 3 ↔ j ∈ (s.rx ++ [i]).take s.filled
    rw [htk]
    by_cases e : j = i
    · subst e; simp [updF_same, a2'' s.filled]
    · rw [updF_other _ _ _ e]; exact h.p3 j hj
  · show updF s.pl i 2 j = 5 ↔ j ∈ s.tx
    by_cases e : j = i
    · subst e; simp [updF_same, a3]
    · rw [updF_other _ _ _ e]; exact h.p5 j hj
  · show 1 ≤ updF s.pl i 2 j ∧ updF s.pl i 2 j ≤ 5
    by_cases e : j = i
    · subst e; simp [updF_same]
    · rw [updF_other _ _ _ e]; exact h.pr j hj
theorem PInv.refill (h : PInv s) : ∀ k, k ≤ s.fr.length → PInv (s.refilled k)
  | 0, _ => by rw [PS.refilled_zero]; exact h
  | k + 1, hk => by
    have h1 := PInv.refill h k (by omega)
    rw [← PS.refilled_succ s k (by omega)]
    exact h1.post (i := s.fr[k]) (rest := s.fr.drop (k + 1)) (List.drop_eq_getElem_cons (by omega))
end Go.Proofs.Ythknkfggpdhdbaa
namespace Go.Proofs.Ythknkfggpdhdbaa
open Go.RowKit

theorem Try.infoBuf : (Try.prog.info? 91).map (fun i => (i.zero, i.size, i.bytes)) = some (some (.agg #[.int .i64 0, .int .i64 0, .slice none 0 0]), 3, 40) := by kernel_rfl
/-- a port of which k buffers lie in the line of the free ones -/
def newK (rx tx pool size k : Nat) : PS := { size := size, rxn := rx, txn := tx, pool := pool, filled := 0, pl := fun i => if i < k then 1 else 0, ln := fun _ => 0, bb := fun _ => none, da := fun _ => List.replicate size 0, fr := List.range k, rx := [], tx := [] }
theorem newK_inv (rx tx pool size : Nat) : PInv (newK rx tx pool size pool) := by
  refine ⟨?_, ?_, ?_, ?_, ?_, ?_, ?_, ?_, ?_⟩
  · simp [newK, List.nodup_range]
  · simp [newK]
  · simp [newK]
  · intro i hi; simp [newK]
  · intro i hi
    have : i < pool := hi
    simp [newK, this]
  · intro i hi
    have : i < pool := hi
    simp [newK, this]
  · intro i hi
    have : i < pool := hi
    simp [newK, this]
  · intro i hi
    have : i < pool := hi
    simp [newK, this]
  · intro i hi; simp [newK]
theorem made3 (n j : Nat) (h : j < n * 3) : (madeCells (Value.cells (.agg #[.int .i64 0, .int .i64 0, .slice none 0 0])) (n * 3)).toList[j]? = some (if j % 3 = 2 then .slice none 0 0 else .int .i64 0) := by
  have h3 : j % 3 = 0 ∨ j % 3 = 1 ∨ j % 3 = 2 := by omega
  rw [Array.getElem?_toList, Array.getElem?_eq_getElem (by rw [size_madeCells]; exact h)]
  simp only [madeCells, Array.getElem_map, Array.getElem_range, Value.cells]
  rcases h3 with e | e | e <;> simp [e]
theorem line_new (w : World) (P o g n : Nat) (h0 : w.cell? ⟨P, o, none⟩ = some (.slice (some ⟨g, 0, none⟩) n n)) (h1 : w.cell? ⟨P, o + 1, none⟩ = some (.int .i64 0)) (h2 : w.cell? ⟨P, o + 2, none⟩ = some (.int .i64 0)) (fz : ∀ j, w.frozen? ⟨P, j, none⟩ = false)
    (row : w.ownsRow 0 3 1 (.slice (some ⟨g, 0, none⟩) n n) n (nV (List.replicate n 0))) (hp : 0 < n) (hb : n ≤ 100000) (ne : g ≠ P) : LineAt w P o g n [] 0 (List.replicate n 0) :=
  ⟨h0, h1, h2, fz, row, hp, hb, hp, Nat.zero_le _, fun k hk => by simp at hk, ne⟩
theorem port_new (w : World) (rx tx pool size gb gf gr gt : Nat) {base : Nat} (rb : w.ownsRow base 91 3 (.slice (some ⟨gb, 0, none⟩) pool pool) pool (madeCells (Value.cells (.agg #[.int .i64 0, .int .i64 0, .slice none 0 0])) (pool * 3)).toList)
    (rf : w.ownsRow base 3 1 (.slice (some ⟨gf, 0, none⟩) pool pool) pool (nV (List.replicate pool 0))) (rr : w.ownsRow base 3 1 (.slice (some ⟨gr, 0, none⟩) rx rx) rx (nV (List.replicate rx 0))) (rt : w.ownsRow base 3 1 (.slice (some ⟨gt, 0, none⟩) tx tx) tx (nV (List.replicate tx 0)))
    (h1 : 1 ≤ rx) (h2 : rx ≤ 4096) (h3 : 1 ≤ tx) (h4 : tx ≤ 4096) (h5 : 1 ≤ pool) (h6 : pool ≤ 8192) (h7 : 64 ≤ size) (h8 : size ≤ 65535) (nbf : gb ≠ gf) (nbr : gb ≠ gr) (nbt : gb ≠ gt) (nfr : gf ≠ gr) (nft : gf ≠ gt) (nrt : gr ≠ gt) :
    PortAt (w.alloc (.cells #[.slice (some ⟨gb, 0, none⟩) pool pool, .int .i64 size, .slice (some ⟨gf, 0, none⟩) pool pool, .int .i64 0, .int .i64 0, .slice (some ⟨gr, 0, none⟩) rx rx, .int .i64 0, .int .i64 0, .int .i64 0, .slice (some ⟨gt, 0, none⟩) tx tx, .int .i64 0, .int .i64 0] 89)) w.heap.size gb gf gr gt (newK rx tx pool size 0) := by
  have lb := (rb.lt gb rfl).2
  have lf := (rf.lt gf rfl).2
  have lr := (rr.lt gr rfl).2
  have lt := (rt.lt gt rfl).2
  obtain ⟨W, hW⟩ : ∃ W, W = w.alloc (.cells #[.slice (some ⟨gb, 0, none⟩) pool pool, .int .i64 size, .slice (some ⟨gf, 0, none⟩) pool pool, .int .i64 0, .int .i64 0, .slice (some ⟨gr, 0, none⟩) rx rx, .int .i64 0, .int .i64 0, .int .i64 0, .slice (some ⟨gt, 0, none⟩) tx tx, .int .i64 0, .int .i64 0] 89) := ⟨_, rfl⟩
  have cc : ∀ j, W.cell? ⟨w.heap.size, j, none⟩ = (#[.slice (some ⟨gb, 0, none⟩) pool pool, .int .i64 size, .slice (some ⟨gf, 0, none⟩) pool pool, .int .i64 0, .int .i64 0, .slice (some ⟨gr, 0, none⟩) rx rx, .int .i64 0, .int .i64 0, .int .i64 0, .slice (some ⟨gt, 0, none⟩) tx tx, .int .i64 0, .int .i64 0] : Array Value)[j]? := fun j => by rw [hW, World.cell?_alloc_at _ _ _ _ rfl]
  have fz : ∀ j, W.frozen? ⟨w.heap.size, j, none⟩ = false := fun j => by
    have hh := heap_alloc_new w (.cells #[.slice (some ⟨gb, 0, none⟩) pool pool, .int .i64 size, .slice (some ⟨gf, 0, none⟩) pool pool, .int .i64 0, .int .i64 0, .slice (some ⟨gr, 0, none⟩) rx rx, .int .i64 0, .int .i64 0, .int .i64 0, .slice (some ⟨gt, 0, none⟩) tx tx, .int .i64 0, .int .i64 0] 89)
    rw [← hW] at hh
    simp [World.frozen?, hh]
  have rb' : W.ownsRow 0 91 3 (.slice (some ⟨gb, 0, none⟩) pool pool) pool (madeCells (Value.cells (.agg #[.int .i64 0, .int .i64 0, .slice none 0 0])) (pool * 3)).toList := by rw [hW]; exact owns_mono (rb.alloc _) (Nat.zero_le _)
  have rf' : W.ownsRow 0 3 1 (.slice (some ⟨gf, 0, none⟩) pool pool) pool (nV (List.replicate pool 0)) := by rw [hW]; exact owns_mono (rf.alloc _) (Nat.zero_le _)
  have rr' : W.ownsRow 0 3 1 (.slice (some ⟨gr, 0, none⟩) rx rx) rx (nV (List.replicate rx 0)) := by rw [hW]; exact owns_mono (rr.alloc _) (Nat.zero_le _)
  have rt' : W.ownsRow 0 3 1 (.slice (some ⟨gt, 0, none⟩) tx tx) tx (nV (List.replicate tx 0)) := by rw [hW]; exact owns_mono (rt.alloc _) (Nat.zero_le _)
  rw [← hW]
  refine ⟨by rw [cc]; rfl, by rw [cc]; rfl, by rw [cc]; rfl, fz, ⟨0, _, line_new W _ 2 gf pool (by rw [cc]; rfl) (by rw [cc]; rfl) (by rw [cc]; rfl) fz rf' (by omega) (by omega) (by omega)⟩, ⟨0, _, line_new W _ 5 gr rx (by rw [cc]; rfl) (by rw [cc]; rfl) (by rw [cc]; rfl) fz rr' (by omega) (by omega) (by omega)⟩, ⟨0, _, line_new W _ 9 gt tx (by rw [cc]; rfl) (by rw [cc]; rfl) (by rw [cc]; rfl) fz rt' (by omega) (by omega) (by omega)⟩, fun i hi => ?_, fun i hi => ?_, fun i hi => ?_, fun j => rb'.frozenAt j, fun i b hi hb => by simp [newK] at hb, fun i hi _ => rfl, fun i hi => by simp [newK], fun i hi x hx => by simp [newK] at hx; omega, h7, h8, h5, h6, by omega, nbf, nbr, nbt, nfr, nft, nrt, fun i b hi hb => by simp [newK] at hb, fun i j b hi hj _ hb => by simp [newK] at hb⟩
  · have hi' : i < pool := hi
    rw [rb'.cellAt _ (by omega), made3 pool _ (by omega), if_neg (by omega)]
    simp [newK]
  · have hi' : i < pool := hi
    rw [rb'.cellAt _ (by omega), made3 pool _ (by omega), if_neg (by omega)]
    simp [newK]
  · have hi' : i < pool := hi
    rw [rb'.cellAt _ (by omega), made3 pool _ (by omega), if_pos (by omega)]
    simp [newK, PS.bv]
theorem newK_set (rx tx pool size k : Nat) : ({ newK rx tx pool size k with pl := updF (newK rx tx pool size k).pl k 1, fr := (newK rx tx pool size k).fr ++ [k] } : PS) = newK rx tx pool size (k + 1) := by
  simp only [newK, List.range_succ]
  congr 1
  funext i
  unfold updF
  by_cases h : i = k
  · subst h; simp
  · rw [if_neg h]
    show (if i < k then 1 else 0) = _
    by_cases h2 : i < k
    · rw [if_pos h2, if_pos (by omega)]
    · rw [if_neg h2, if_neg (by omega)]

set_option maxRecDepth 100000 in
set_option maxHeartbeats 3200000 in
theorem New_yes (w : World) (rx tx pool size : Nat) (h1 : 1 ≤ rx) (h2 : rx ≤ 4096) (h3 : 1 ≤ tx) (h4 : tx ≤ 4096) (h5 : 1 ≤ pool) (h6 : pool ≤ 8192) (h7 : 64 ≤ size) (h8 : size ≤ 65535) :
    Calls Try.prog 13 #[.int .i64 rx, .int .i64 tx, .int .i64 pool, .int .i64 size] w fun e w' => ∃ P gb gf gr gt, e = .returned (.tuple #[.pointer (some ⟨P, 0, none⟩), .int .i64 0]) ∧ PortAt w' P gb gf gr gt (newK rx tx pool size pool) ∧ Below w.heap.size w w' ∧ ∀ q, PB P gb gf gr gt (newK rx tx pool size pool) q → w.heap.size ≤ q := by
  obtain ⟨i0, hii, hz0, hz1, hz2⟩ := info_parts Try.infoBuf
  have d1 : decide ((1 : Int) ≤ (rx : Int) ∧ (rx : Int) ≤ 4096) = true := decide_eq_true (by omega)
  have d2 : decide ((1 : Int) ≤ (tx : Int) ∧ (tx : Int) ≤ 4096) = true := decide_eq_true (by omega)
  have d3 : decide ((1 : Int) ≤ (pool : Int) ∧ (pool : Int) ≤ 8192) = true := decide_eq_true (by omega)
  have d4 : decide ((64 : Int) ≤ (size : Int) ∧ (size : Int) ≤ 65535) = true := decide_eq_true (by omega)
  have q1 : Hid _ := within_any (rx : Int) 1 4096
  have q2 : Hid _ := within_any (tx : Int) 1 4096
  have q3 : Hid _ := within_any (pool : Int) 1 8192
  have q4 : Hid _ := within_any (size : Int) 64 65535
  rw [d1] at q1
  rw [d2] at q2
  rw [d3] at q3
  rw [d4] at q4
  clear d1 d2 d3 d4
  go_enter Try.func13, Try.ntmps13
  go_wp2_with fail
  refine Calls.mono (q1.out w) ?_
  rintro e w' ⟨rfl, rfl⟩
  go_wp2_with fail
  refine Calls.mono (q2.out w) ?_
  rintro e w' ⟨rfl, rfl⟩
  go_wp2_with fail
  refine Calls.mono (q3.out w) ?_
  rintro e w' ⟨rfl, rfl⟩
  go_wp2_with fail
  refine Calls.mono (q4.out w) ?_
  rintro e w' ⟨rfl, rfl⟩
  go_upto_region 3 with fail
  go_cut [10] (fun s wx => ∃ P gb gf gr gt, s = .pointer (some ⟨P, 0, none⟩) ∧ PortAt wx P gb gf gr gt (newK rx tx pool size 0) ∧ Below w.heap.size w wx ∧ w.heap.size ≤ P ∧ w.heap.size ≤ gb ∧ w.heap.size ≤ gf ∧ w.heap.size ≤ gr ∧ w.heap.size ≤ gt)
  case first =>
    refine Mix.start (by kernel_rfl) ?_
    obtain ⟨wA, hwA⟩ : ∃ wA, wA = w.drew := ⟨_, rfl⟩
    have bel : Below w.heap.size w wA := by rw [hwA]; exact (Below.refl _ _).drew
    rw [← hwA]
    clear hwA
    refine Mix.take [true, false, true, true, false, true, false, true] 7 (by kernel_rfl) (by kernel_rfl) (by decide) (by kernel_rfl) (fun K hK => ?_)
    simp only [Mix.pick]
    repeat (go_big_quiet_step (fail))
    refine wpQuiet_nil (hK _ ?_)
    clear hK K
    refine Mix.pair [false, true] [false, false, false, false, true] 6 1 4 _ _ rfl rfl rfl rfl (by kernel_rfl) (by kernel_rfl) (fun K hK => ?_) (fun K hK => ?_)
    · simp only [Mix.pick]
      go_wp2_with (first | (at_make; refine wpList_make_full _ rfl _ _ 84 rfl w.heap.size 91 i0 (.agg #[.int .i64 0, .int .i64 0, .slice none 0 0]) 3 Try.underlying84 hii hz0 hz1 .i64 .i64 _ _ pool rfl rfl rfl rfl (by rw [hz2]; omega) (by unfold maxLen; omega) bel.size ?_))
      intro wb rb hgr
      obtain ⟨gb, hgb⟩ : ∃ gb, gb = wA.heap.size := ⟨_, rfl⟩
      rw [← hgb] at rb ⊢
      have ub : w.heap.size ≤ gb := by rw [hgb]; exact bel.size
      replace bel := bel.grown hgr bel.size (by intro k hk; cases hk)
      clear hgr hgb
      go_wp2
      refine ⟨rfl, hK _ _ ?_⟩
      clear hK K
      refine Mix.one [false, false, false, false, true] 5 4 _ rfl rfl (by kernel_rfl) (by kernel_rfl) (fun K hK => ?_)
      simp only [Mix.pick]
      have lb : gb < wb.heap.size := (rb.lt gb rfl).2
      go_wp2_with fail
      refine (newLine_any wb pool (by omega)).mono ?_
      rintro e wbf ⟨gf, rfl, rf, hb⟩
      have lo : wb.heap.size ≤ gf := (rf.lt gf rfl).1
      have uf : w.heap.size ≤ gf := Nat.le_trans bel.size lo
      have nbf : gb ≠ gf := by omega
      replace rb := (Ch.ofBelow (S := fun _ => False) hb).owns rb (fun _ _ => id)
      replace rf := owns_mono rf bel.size
      replace bel := bel.trans (hb.mono bel.size)
      clear hb lo lb
      go_wp2
      refine ⟨rfl, hK _ _ ?_⟩
      clear hK K
      refine Mix.one [false, false, false, false, false, false, true] 4 6 _ rfl rfl (by kernel_rfl) (by kernel_rfl) (fun K hK => ?_)
      simp only [Mix.pick]
      have lb : gb < wbf.heap.size := (rb.lt gb rfl).2
      have lf : gf < wbf.heap.size := (rf.lt gf rfl).2
      go_wp2_with fail
      refine (newLine_any wbf rx (by omega)).mono ?_
      rintro e wbfr ⟨gr, rfl, rr, hb⟩
      have lo : wbf.heap.size ≤ gr := (rr.lt gr rfl).1
      have ur : w.heap.size ≤ gr := Nat.le_trans bel.size lo
      have nbr : gb ≠ gr := by omega
      have nfr : gf ≠ gr := by omega
      replace rb := (Ch.ofBelow (S := fun _ => False) hb).owns rb (fun _ _ => id)
      replace rf := (Ch.ofBelow (S := fun _ => False) hb).owns rf (fun _ _ => id)
      replace rr := owns_mono rr bel.size
      replace bel := bel.trans (hb.mono bel.size)
      clear hb lo lb lf
      go_wp2
      refine ⟨rfl, hK _ _ ?_⟩
      clear hK K
      refine Mix.one [false, false, false, false, false, false, false, false, true] 3 8 _ rfl rfl (by kernel_rfl) (by kernel_rfl) (fun K hK => ?_)
      simp only [Mix.pick]
      have lb : gb < wbfr.heap.size := (rb.lt gb rfl).2
      have lf : gf < wbfr.heap.size := (rf.lt gf rfl).2
      have lr : gr < wbfr.heap.size := (rr.lt gr rfl).2
      go_wp2_with fail
      refine (newLine_any wbfr tx (by omega)).mono ?_
      rintro e wbfrt ⟨gt, rfl, rt, hb⟩
      have lo : wbfr.heap.size ≤ gt := (rt.lt gt rfl).1
      have ut : w.heap.size ≤ gt := Nat.le_trans bel.size lo
      have nbt : gb ≠ gt := by omega
      have nft : gf ≠ gt := by omega
      have nrt : gr ≠ gt := by omega
      replace rb := (Ch.ofBelow (S := fun _ => False) hb).owns rb (fun _ _ => id)
      replace rf := (Ch.ofBelow (S := fun _ => False) hb).owns rf (fun _ _ => id)
      replace rr := (Ch.ofBelow (S := fun _ => False) hb).owns rr (fun _ _ => id)
      replace rt := owns_mono rt bel.size
      replace bel := bel.trans (hb.mono bel.size)
      clear hb lo lb lf lr
      go_wp2
      refine ⟨rfl, hK _ _ ?_⟩
      clear hK K
      refine Mix.take [false, false, false, false, false, false, false, false, false, true] 2 (by kernel_rfl) (by kernel_rfl) (by decide) (by kernel_rfl) (fun K hK => ?_)
      simp only [Mix.pick]
      repeat (go_big_quiet_step (fail))
      refine wpQuiet_nil (hK _ ?_)
      clear hK K
      refine Mix.one [false, false, false, false, false, false, false, false, false, false, true] 1 10 _ rfl rfl (by kernel_rfl) (by kernel_rfl) (fun K hK => ?_)
      simp only [Mix.pick]
      go_wp2
      refine ⟨rfl, hK _ _ ?_⟩
      clear hK K
      refine Mix.take [false, false, false, false, false, false, false, false, false, false, false, true] 0 (by kernel_rfl) (by kernel_rfl) (by decide) (by kernel_rfl) (fun K hK => ?_)
      simp only [Mix.pick]
      repeat (go_big_quiet_step (fail))
      refine wpQuiet_nil (hK _ ?_)
      clear hK K
      refine Mix.done (by kernel_rfl) ?_
      first | go_meet | (go_wp2; go_meet)
      exact ⟨_, gb, gf, gr, gt, rfl, port_new _ rx tx pool size gb gf gr gt rb rf rr rt (by omega) (by omega) (by omega) (by omega) (by omega) (by omega) (by omega) (by omega) nbf nbr nbt nfr nft nrt, bel.alloc bel.size _, bel.size, ub, uf, ur, ut⟩
    · simp only [Mix.pick]
      go_wp2_with fail
      refine (newLine_any wA pool (by omega)).mono ?_
      rintro e wf ⟨gf, rfl, rf, hb⟩
      have lo : wA.heap.size ≤ gf := (rf.lt gf rfl).1
      have uf : w.heap.size ≤ gf := Nat.le_trans bel.size lo
      replace rf := owns_mono rf bel.size
      replace bel := bel.trans (hb.mono bel.size)
      clear hb lo
      go_wp2
      refine ⟨rfl, hK _ _ ?_⟩
      clear hK K
      refine Mix.pair [false, true] [false, false, false, false, false, false, true] 5 1 6 _ _ rfl rfl rfl rfl (by kernel_rfl) (by kernel_rfl) (fun K hK => ?_) (fun K hK => ?_)
      · simp only [Mix.pick]
        have lf : gf < wf.heap.size := (rf.lt gf rfl).2
        go_wp2_with (first | (at_make; refine wpList_make_full _ rfl _ _ 84 rfl w.heap.size 91 i0 (.agg #[.int .i64 0, .int .i64 0, .slice none 0 0]) 3 Try.underlying84 hii hz0 hz1 .i64 .i64 _ _ pool rfl rfl rfl rfl (by rw [hz2]; omega) (by unfold maxLen; omega) bel.size ?_))
        intro wbf rb hgr
        obtain ⟨gb, hgb⟩ : ∃ gb, gb = wf.heap.size := ⟨_, rfl⟩
        rw [← hgb] at rb ⊢
        have ub : w.heap.size ≤ gb := by rw [hgb]; exact bel.size
        have nbf : gb ≠ gf := by omega
        replace rf := (Ch.ofGrown hgr).owns rf (fun _ _ h => by cases h)
        replace bel := bel.grown hgr bel.size (by intro k hk; cases hk)
        clear hgr hgb lf
        go_wp2
        refine ⟨rfl, hK _ _ ?_⟩
        clear hK K
        refine Mix.one [false, false, false, false, false, false, true] 4 6 _ rfl rfl (by kernel_rfl) (by kernel_rfl) (fun K hK => ?_)
        simp only [Mix.pick]
        have lb : gb < wbf.heap.size := (rb.lt gb rfl).2
        have lf : gf < wbf.heap.size := (rf.lt gf rfl).2
        go_wp2_with fail
        refine (newLine_any wbf rx (by omega)).mono ?_
        rintro e wbfr ⟨gr, rfl, rr, hb⟩
        have lo : wbf.heap.size ≤ gr := (rr.lt gr rfl).1
        have ur : w.heap.size ≤ gr := Nat.le_trans bel.size lo
        have nbr : gb ≠ gr := by omega
        have nfr : gf ≠ gr := by omega
        replace rb := (Ch.ofBelow (S := fun _ => False) hb).owns rb (fun _ _ => id)
        replace rf := (Ch.ofBelow (S := fun _ => False) hb).owns rf (fun _ _ => id)
        replace rr := owns_mono rr bel.size
        replace bel := bel.trans (hb.mono bel.size)
        clear hb lo lb lf
        go_wp2
        refine ⟨rfl, hK _ _ ?_⟩
        clear hK K
        refine Mix.one [false, false, false, false, false, false, false, false, true] 3 8 _ rfl rfl (by kernel_rfl) (by kernel_rfl) (fun K hK => ?_)
        simp only [Mix.pick]
        have lb : gb < wbfr.heap.size := (rb.lt gb rfl).2
        have lf : gf < wbfr.heap.size := (rf.lt gf rfl).2
        have lr : gr < wbfr.heap.size := (rr.lt gr rfl).2
        go_wp2_with fail
        refine (newLine_any wbfr tx (by omega)).mono ?_
        rintro e wbfrt ⟨gt, rfl, rt, hb⟩
        have lo : wbfr.heap.size ≤ gt := (rt.lt gt rfl).1
        have ut : w.heap.size ≤ gt := Nat.le_trans bel.size lo
        have nbt : gb ≠ gt := by omega
        have nft : gf ≠ gt := by omega
        have nrt : gr ≠ gt := by omega
        replace rb := (Ch.ofBelow (S := fun _ => False) hb).owns rb (fun _ _ => id)
        replace rf := (Ch.ofBelow (S := fun _ => False) hb).owns rf (fun _ _ => id)
        replace rr := (Ch.ofBelow (S := fun _ => False) hb).owns rr (fun _ _ => id)
        replace rt := owns_mono rt bel.size
        replace bel := bel.trans (hb.mono bel.size)
        clear hb lo lb lf lr
        go_wp2
        refine ⟨rfl, hK _ _ ?_⟩
        clear hK K
        refine Mix.take [false, false, false, false, false, false, false, false, false, true] 2 (by kernel_rfl) (by kernel_rfl) (by decide) (by kernel_rfl) (fun K hK => ?_)
        simp only [Mix.pick]
        repeat (go_big_quiet_step (fail))
        refine wpQuiet_nil (hK _ ?_)
        clear hK K
        refine Mix.one [false, false, false, false, false, false, false, false, false, false, true] 1 10 _ rfl rfl (by kernel_rfl) (by kernel_rfl) (fun K hK => ?_)
        simp only [Mix.pick]
        go_wp2
        refine ⟨rfl, hK _ _ ?_⟩
        clear hK K
        refine Mix.take [false, false, false, false, false, false, false, false, false, false, false, true] 0 (by kernel_rfl) (by kernel_rfl) (by decide) (by kernel_rfl) (fun K hK => ?_)
        simp only [Mix.pick]
        repeat (go_big_quiet_step (fail))
        refine wpQuiet_nil (hK _ ?_)
        clear hK K
        refine Mix.done (by kernel_rfl) ?_
        first | go_meet | (go_wp2; go_meet)
        exact ⟨_, gb, gf, gr, gt, rfl, port_new _ rx tx pool size gb gf gr gt rb rf rr rt (by omega) (by omega) (by omega) (by omega) (by omega) (by omega) (by omega) (by omega) nbf nbr nbt nfr nft nrt, bel.alloc bel.size _, bel.size, ub, uf, ur, ut⟩
      · simp only [Mix.pick]
        have lf : gf < wf.heap.size := (rf.lt gf rfl).2
        go_wp2_with fail
        refine (newLine_any wf rx (by omega)).mono ?_
        rintro e wfr ⟨gr, rfl, rr, hb⟩
        have lo : wf.heap.size ≤ gr := (rr.lt gr rfl).1
        have ur : w.heap.size ≤ gr := Nat.le_trans bel.size lo
        have nfr : gf ≠ gr := by omega
        replace rf := (Ch.ofBelow (S := fun _ => False) hb).owns rf (fun _ _ => id)
        replace rr := owns_mono rr bel.size
        replace bel := bel.trans (hb.mono bel.size)
        clear hb lo lf
        go_wp2
        refine ⟨rfl, hK _ _ ?_⟩
        clear hK K
        refine Mix.pair [false, true] [false, false, false, false, false, false, false, false, true] 4 1 8 _ _ rfl rfl rfl rfl (by kernel_rfl) (by kernel_rfl) (fun K hK => ?_) (fun K hK => ?_)
        · simp only [Mix.pick]
          have lf : gf < wfr.heap.size := (rf.lt gf rfl).2
          have lr : gr < wfr.heap.size := (rr.lt gr rfl).2
          go_wp2_with (first | (at_make; refine wpList_make_full _ rfl _ _ 84 rfl w.heap.size 91 i0 (.agg #[.int .i64 0, .int .i64 0, .slice none 0 0]) 3 Try.underlying84 hii hz0 hz1 .i64 .i64 _ _ pool rfl rfl rfl rfl (by rw [hz2]; omega) (by unfold maxLen; omega) bel.size ?_))
          intro wbfr rb hgr
          obtain ⟨gb, hgb⟩ : ∃ gb, gb = wfr.heap.size := ⟨_, rfl⟩
          rw [← hgb] at rb ⊢
          have ub : w.heap.size ≤ gb := by rw [hgb]; exact bel.size
          have nbf : gb ≠ gf := by omega
          have nbr : gb ≠ gr := by omega
          replace rf := (Ch.ofGrown hgr).owns rf (fun _ _ h => by cases h)
          replace rr := (Ch.ofGrown hgr).owns rr (fun _ _ h => by cases h)
          replace bel := bel.grown hgr bel.size (by intro k hk; cases hk)
          clear hgr hgb lf lr
          go_wp2
          refine ⟨rfl, hK _ _ ?_⟩
          clear hK K
          refine Mix.one [false, false, false, false, false, false, false, false, true] 3 8 _ rfl rfl (by kernel_rfl) (by kernel_rfl) (fun K hK => ?_)
          simp only [Mix.pick]
          have lb : gb < wbfr.heap.size := (rb.lt gb rfl).2
          have lf : gf < wbfr.heap.size := (rf.lt gf rfl).2
          have lr : gr < wbfr.heap.size := (rr.lt gr rfl).2
          go_wp2_with fail
          refine (newLine_any wbfr tx (by omega)).mono ?_
          rintro e wbfrt ⟨gt, rfl, rt, hb⟩
          have lo : wbfr.heap.size ≤ gt := (rt.lt gt rfl).1
          have ut : w.heap.size ≤ gt := Nat.le_trans bel.size lo
          have nbt : gb ≠ gt := by omega
          have nft : gf ≠ gt := by omega
          have nrt : gr ≠ gt := by omega
          replace rb := (Ch.ofBelow (S := fun _ => False) hb).owns rb (fun _ _ => id)
          replace rf := (Ch.ofBelow (S := fun _ => False) hb).owns rf (fun _ _ => id)
          replace rr := (Ch.ofBelow (S := fun _ => False) hb).owns rr (fun _ _ => id)
          replace rt := owns_mono rt bel.size
          replace bel := bel.trans (hb.mono bel.size)
          clear hb lo lb lf lr
          go_wp2
          refine ⟨rfl, hK _ _ ?_⟩
          clear hK K
          refine Mix.take [false, false, false, false, false, false, false, false, false, true] 2 (by kernel_rfl) (by kernel_rfl) (by decide) (by kernel_rfl) (fun K hK => ?_)
          simp only [Mix.pick]
          repeat (go_big_quiet_step (fail))
          refine wpQuiet_nil (hK _ ?_)
          clear hK K
          refine Mix.one [false, false, false, false, false, false, false, false, false, false, true] 1 10 _ rfl rfl (by kernel_rfl) (by kernel_rfl) (fun K hK => ?_)
          simp only [Mix.pick]
          go_wp2
          refine ⟨rfl, hK _ _ ?_⟩
          clear hK K
          refine Mix.take [false, false, false, false, false, false, false, false, false, false, false, true] 0 (by kernel_rfl) (by kernel_rfl) (by decide) (by kernel_rfl) (fun K hK => ?_)
          simp only [Mix.pick]
          repeat (go_big_quiet_step (fail))
          refine wpQuiet_nil (hK _ ?_)
          clear hK K
          refine Mix.done (by kernel_rfl) ?_
          first | go_meet | (go_wp2; go_meet)
          exact ⟨_, gb, gf, gr, gt, rfl, port_new _ rx tx pool size gb gf gr gt rb rf rr rt (by omega) (by omega) (by omega) (by omega) (by omega) (by omega) (by omega) (by omega) nbf nbr nbt nfr nft nrt, bel.alloc bel.size _, bel.size, ub, uf, ur, ut⟩
        · simp only [Mix.pick]
          have lf : gf < wfr.heap.size := (rf.lt gf rfl).2
          have lr : gr < wfr.heap.size := (rr.lt gr rfl).2
          go_wp2_with fail
          refine (newLine_any wfr tx (by omega)).mono ?_
          rintro e wfrt ⟨gt, rfl, rt, hb⟩
          have lo : wfr.heap.size ≤ gt := (rt.lt gt rfl).1
          have ut : w.heap.size ≤ gt := Nat.le_trans bel.size lo
          have nft : gf ≠ gt := by omega
          have nrt : gr ≠ gt := by omega
          replace rf := (Ch.ofBelow (S := fun _ => False) hb).owns rf (fun _ _ => id)
          replace rr := (Ch.ofBelow (S := fun _ => False) hb).owns rr (fun _ _ => id)
          replace rt := owns_mono rt bel.size
          replace bel := bel.trans (hb.mono bel.size)
          clear hb lo lf lr
          go_wp2
          refine ⟨rfl, hK _ _ ?_⟩
          clear hK K
          refine Mix.one [false, true] 3 1 _ rfl rfl (by kernel_rfl) (by kernel_rfl) (fun K hK => ?_)
          simp only [Mix.pick]
          have lf : gf < wfrt.heap.size := (rf.lt gf rfl).2
          have lr : gr < wfrt.heap.size := (rr.lt gr rfl).2
          have lt : gt < wfrt.heap.size := (rt.lt gt rfl).2
          go_wp2_with (first | (at_make; refine wpList_make_full _ rfl _ _ 84 rfl w.heap.size 91 i0 (.agg #[.int .i64 0, .int .i64 0, .slice none 0 0]) 3 Try.underlying84 hii hz0 hz1 .i64 .i64 _ _ pool rfl rfl rfl rfl (by rw [hz2]; omega) (by unfold maxLen; omega) bel.size ?_))
          intro wbfrt rb hgr
          obtain ⟨gb, hgb⟩ : ∃ gb, gb = wfrt.heap.size := ⟨_, rfl⟩
          rw [← hgb] at rb ⊢
          have ub : w.heap.size ≤ gb := by rw [hgb]; exact bel.size
          have nbf : gb ≠ gf := by omega
          have nbr : gb ≠ gr := by omega
          have nbt : gb ≠ gt := by omega
          replace rf := (Ch.ofGrown hgr).owns rf (fun _ _ h => by cases h)
          replace rr := (Ch.ofGrown hgr).owns rr (fun _ _ h => by cases h)
          replace rt := (Ch.ofGrown hgr).owns rt (fun _ _ h => by cases h)
          replace bel := bel.grown hgr bel.size (by intro k hk; cases hk)
          clear hgr hgb lf lr lt
          go_wp2
          refine ⟨rfl, hK _ _ ?_⟩
          clear hK K
          refine Mix.take [false, false, false, false, false, false, false, false, false, true] 2 (by kernel_rfl) (by kernel_rfl) (by decide) (by kernel_rfl) (fun K hK => ?_)
          simp only [Mix.pick]
          repeat (go_big_quiet_step (fail))
          refine wpQuiet_nil (hK _ ?_)
          clear hK K
          refine Mix.one [false, false, false, false, false, false, false, false, false, false, true] 1 10 _ rfl rfl (by kernel_rfl) (by kernel_rfl) (fun K hK => ?_)
          simp only [Mix.pick]
          go_wp2
          refine ⟨rfl, hK _ _ ?_⟩
          clear hK K
          refine Mix.take [false, false, false, false, false, false, false, false, false, false, false, true] 0 (by kernel_rfl) (by kernel_rfl) (by decide) (by kernel_rfl) (fun K hK => ?_)
          simp only [Mix.pick]
          repeat (go_big_quiet_step (fail))
          refine wpQuiet_nil (hK _ ?_)
          clear hK K
          refine Mix.done (by kernel_rfl) ?_
          first | go_meet | (go_wp2; go_meet)
          exact ⟨_, gb, gf, gr, gt, rfl, port_new _ rx tx pool size gb gf gr gt rb rf rr rt (by omega) (by omega) (by omega) (by omega) (by omega) (by omega) (by omega) (by omega) nbf nbr nbt nfr nft nrt, bel.alloc bel.size _, bel.size, ub, uf, ur, ut⟩
  case rest =>
  obtain ⟨P, gb, gf, gr, gt, rfl, hP, hbel, uP, ub, uf, ur, ut⟩ := hcut
  obtain ⟨wz, rfl⟩ : ∃ wz, wz = wc := ⟨_, rfl⟩
  clear q1 q2 q3 q4
  go_wp2
  go_loopw [42] (fun ix wr => ∃ k : Nat, k ≤ pool ∧ ix = .int .i64 k ∧ PortAt wr P gb gf gr gt (newK rx tx pool size k) ∧ Below w.heap.size w wr) (fun ix _ => pool - (intOf ix).toNat)
  case atStart => exact ⟨0, Nat.zero_le _, rfl, hP, hbel⟩
  case round =>
    obtain ⟨k, hk, rfl, hp, hb⟩ := hrel
    clear hP hbel
    by_cases hlt : k < pool
    · have hp1 := hp.setPl k 1 hlt
      have hB := hp.cB
      have hc := hp.b0 k hlt
      have hfz := hp.bz (k * 3)
      have hB' : wr.cell? ⟨P, 0, none⟩ = some (.slice (some ⟨gb, 0, none⟩) pool pool) := hB
      have hc' : wr.cell? ⟨gb, k * 3, none⟩ = some (.int .i64 0) := by simpa [newK] using hc
      obtain ⟨f, S, l⟩ := hp1.lf
      have HJ : Hid _ := join_line (wr.setCell ⟨gb, k * 3, none⟩ (.int .i64 (1 : Nat))) P 2 gf pool k (List.range k) f S l (by simpa using hlt)
      have HP : Hid _ := hp1
      have HS : Hid _ := newK_set rx tx pool size k
      clear hp hp1 l hB hc
      go_wp2_with fail
      refine Calls.mono HJ.out ?_
      rintro e w' ⟨rfl, ⟨S', l'⟩, kk, ho⟩
      have HF := HP.out.freeSet kk l' ho
      have HF' : PortAt w' P gb gf gr gt (newK rx tx pool size (k + 1)) := by
        have e := HS.out
        rw [← e]
        exact HF
      have HB' : Below w.heap.size w w' := by
        have c1 : Ch (fun q => q = P ∨ q = gb ∨ q = gf) wr w' := ((Ch.refl (fun q => q = P ∨ q = gb ∨ q = gf) wr).set ⟨gb, k * 3, none⟩ (.int .i64 (1 : Nat)) (.inr (.inl rfl))).trans kk (fun _ _ e => e.elim .inl (fun e => .inr (.inr e)))
        exact hb.trans (c1.below (fun x e => by rcases e with e | e | e <;> omega) hb.size)
      clear HJ HP HS HF l' kk ho hb hc' hB' hfz
      go_wp2
      go_roundw
      case rel => exact ⟨k + 1, by omega, by go_num, HF', HB'⟩
      case measure => simp [intOf]; omega
    · obtain rfl : k = pool := by omega
      go_wp2
      go_ret2
      refine ⟨P, gb, gf, gr, gt, rfl, hp, hb, fun q hq => ?_⟩
      rcases hq with rfl | rfl | rfl | rfl | rfl | ⟨i, hi, hbb⟩
      · exact uP
      · exact ub
      · exact uf
      · exact ur
      · exact ut
      · simp [newK] at hbb
end Go.Proofs.Ythknkfggpdhdbaa
namespace Go.Proofs.Ythknkfggpdhdbaa
open Go.RowKit

/-- how many of the first k buffers are at the place j -/
def cnt (pl : Nat → Nat) : Nat → Nat → Nat
  | 0, _ => 0
  | k + 1, j => cnt pl k j + if pl k = j then 1 else 0
theorem cnt_le (pl : Nat → Nat) (k j : Nat) : cnt pl k j ≤ k := by
  induction k with
  | zero => simp [cnt]
  | succ k ih => simp only [cnt]; split <;> omega
def statV (pl : Nat → Nat) (n : Nat) : Value := .agg #[.int .i64 (cnt pl n 1), .int .i64 (cnt pl n 2), .int .i64 (cnt pl n 3), .int .i64 (cnt pl n 4), .int .i64 (cnt pl n 5)]
theorem Try.sizeStat : (Try.prog.info? 80).map (·.size) = some 5 := by kernel_rfl
set_option maxRecDepth 100000 in
set_option maxHeartbeats 1600000 in
theorem Stat_any (w : World) (P gb gf gr gt : Nat) (s : PS) (h : PortAt w P gb gf gr gt s) (hpl : ∀ i, i < s.pool → s.pl i ≤ 5) :
    Calls Try.prog 37 #[.pointer (some ⟨P, 0, none⟩)] w fun e w' => e = .returned (statV s.pl s.pool) ∧ Below w.heap.size w w' := by
  have hB := h.cB
  have hp2 := h.p2
  have hPl := h.Pl
  have HP : Hid _ := h
  obtain ⟨N, hN⟩ : ∃ N, N = s.pool := ⟨_, rfl⟩
  have HN : Hid (N = s.pool) := hN
  rw [← hN] at hB hp2 hpl ⊢
  clear h hN
  go_enter Try.func37, Try.ntmps37
  go_upto_region 2 with fail
  obtain ⟨R, hR⟩ : ∃ R, R = w.heap.size := ⟨_, rfl⟩
  obtain ⟨W, hW⟩ : ∃ W, W = (w.alloc (.cells #[.int .i64 0, .int .i64 0, .int .i64 0, .int .i64 0, .int .i64 0] 80)).alloc (.cells #[.int .i64 0, .int .i64 0, .int .i64 0, .int .i64 0, .int .i64 0, .int .i64 0] 109) := ⟨_, rfl⟩
  have bel : Below w.heap.size w W := by rw [hW]; exact ((Below.refl _ _).alloc (Nat.le_refl _) _).alloc (by simp) _
  have hg0 : W.heap[R]? = some (.cells #[.int .i64 0, .int .i64 0, .int .i64 0, .int .i64 0, .int .i64 0] 80) := by
    rw [hW, hR, heap_alloc_old _ _ (by simp)]
    exact heap_alloc_new _ _
  have hc0 : W.heap[R + 1]? = some (.cells #[.int .i64 0, .int .i64 0, .int .i64 0, .int .i64 0, .int .i64 0, .int .i64 0] 109) := by
    rw [hW, hR]
    have := heap_alloc_new (w.alloc (.cells #[.int .i64 0, .int .i64 0, .int .i64 0, .int .i64 0, .int .i64 0] 80)) (.cells #[.int .i64 0, .int .i64 0, .int .i64 0, .int .i64 0, .int .i64 0, .int .i64 0] 109)
    rwa [World.size_alloc] at this
  rw [← hW, ← hR]
  have HR : Hid (R = w.heap.size) := hR
  have hB1 : W.cell? ⟨P, 0, none⟩ = some (.slice (some ⟨gb, 0, none⟩) N N) := (bel.cell hPl).trans hB
  clear hW hR
  go_wp2
  go_loopw [10] (fun ix wr => ∃ k : Nat, k ≤ N ∧ ix = .int .i64 k ∧ Below w.heap.size w wr ∧ R + 1 < wr.heap.size ∧ wr.heap[R]? = some (.cells #[.int .i64 0, .int .i64 0, .int .i64 0, .int .i64 0, .int .i64 0] 80) ∧ (∀ j, j < 6 → wr.cell? ⟨R + 1, j, none⟩ = some (.int .i64 (cnt s.pl k j))) ∧ ∀ j, wr.frozen? ⟨R + 1, j, none⟩ = false) (fun ix _ => N - (intOf ix).toNat)
  case atStart =>
    refine ⟨0, Nat.zero_le _, rfl, bel, ?_, hg0, fun j hj => ?_, fun j => by simp [World.frozen?, hc0]⟩
    · have e : W.cell? ⟨R + 1, 0, none⟩ = some (.int .i64 0) := by simp [World.cell?, hc0]
      exact World.block_lt_of_cell? W ⟨R + 1, 0, none⟩ e
    · have : j = 0 ∨ j = 1 ∨ j = 2 ∨ j = 3 ∨ j = 4 ∨ j = 5 := by omega
      rcases this with rfl | rfl | rfl | rfl | rfl | rfl <;> simp [World.cell?, hc0, cnt]
  case round =>
    obtain ⟨k, hk, rfl, hbel, hsz, hg, hcs, hfz⟩ := hrel
    clear bel hg0 hc0 hB1
    by_cases hlt : k < N
    · have hr := HP.out.below hbel
      have hBr := hr.cB
      rw [← HN.out] at hBr
      have cr := hr.b0 k (by have := HN.out; omega)
      have hp5 := hpl k hlt
      obtain ⟨x, hx⟩ : ∃ x, x = s.pl k := ⟨_, rfl⟩
      rw [← hx] at cr hp5
      have cx := hcs x (by omega)
      have fx := hfz x
      obtain ⟨c, hc⟩ : ∃ c, c = cnt s.pl k x := ⟨_, rfl⟩
      have hcle : c ≤ k := by rw [hc]; exact cnt_le _ _ _
      rw [← hc] at cx
      have wq : IntKind.i64.wrap ((c : Int) + 1) = (c : Int) + 1 := i64_small _ (by omega) (by omega)
      have x0 : (0 : Int) ≤ (x : Int) := by omega
      have x1 : (x : Int) < 6 := by omega
      have x2 : ((x : Int)).toNat = x := by omega
      have kk : Ch (fun q => q = R + 1) wr (wr.setCell ⟨R + 1, x, none⟩ (.int .i64 ((c : Int) + 1))) := (Ch.refl _ wr).set _ _ rfl
      have HF : Hid (Below w.heap.size w (wr.setCell ⟨R + 1, x, none⟩ (.int .i64 ((c : Int) + 1))) ∧ R + 1 < (wr.setCell ⟨R + 1, x, none⟩ (.int .i64 ((c : Int) + 1))).heap.size ∧ (wr.setCell ⟨R + 1, x, none⟩ (.int .i64 ((c : Int) + 1))).heap[R]? = some (.cells #[.int .i64 0, .int .i64 0, .int .i64 0, .int .i64 0, .int .i64 0] 80) ∧ (∀ j, j < 6 → (wr.setCell ⟨R + 1, x, none⟩ (.int .i64 ((c : Int) + 1))).cell? ⟨R + 1, j, none⟩ = some (.int .i64 (cnt s.pl (k + 1) j))) ∧ ∀ j, (wr.setCell ⟨R + 1, x, none⟩ (.int .i64 ((c : Int) + 1))).frozen? ⟨R + 1, j, none⟩ = false) := by
        refine ⟨hbel.trans (kk.below (fun q e => by have := HR.out; omega) hbel.size), Nat.lt_of_lt_of_le hsz kk.size, (kk.block R (by omega) (by omega)).trans hg, fun j hj => ?_, fun j => by rw [World.frozen?_setCell]; exact hfz j⟩
        by_cases e : j = x
        · subst e
          rw [World.cell?_setCell_same _ _ _ cx]
          simp [cnt, ← hx, hc]
        · rw [gb_other _ _ _ _ _ e, hcs j hj]
          rw [cnt, ← hx, if_neg (fun e' => e e'.symm), Nat.add_zero]
      clear hx hc kk hr hcs hfz hg hbel hsz
      go_wp2
      go_roundw
      case rel =>
        obtain ⟨f1, f2, f3, f4, f5⟩ := HF.out
        exact ⟨k + 1, by omega, by go_num, f1, f2, f3, f4, f5⟩
      case measure => simp [intOf]; omega
    · obtain rfl : k = N := by omega
      have a1 := hcs 1 (by decide)
      have a2 := hcs 2 (by decide)
      have a3 := hcs 3 (by decide)
      have a4 := hcs 4 (by decide)
      have a5 := hcs 5 (by decide)
      obtain ⟨n1, h1⟩ : ∃ n, n = cnt s.pl k 1 := ⟨_, rfl⟩
      obtain ⟨n2, h2⟩ : ∃ n, n = cnt s.pl k 2 := ⟨_, rfl⟩
      obtain ⟨n3, h3⟩ : ∃ n, n = cnt s.pl k 3 := ⟨_, rfl⟩
      obtain ⟨n4, h4⟩ : ∃ n, n = cnt s.pl k 4 := ⟨_, rfl⟩
      obtain ⟨n5, h5⟩ : ∃ n, n = cnt s.pl k 5 := ⟨_, rfl⟩
      rw [← h1] at a1
      rw [← h2] at a2
      rw [← h3] at a3
      rw [← h4] at a4
      rw [← h5] at a5
      have HV : Hid (statV s.pl k = .agg #[.int .i64 n1, .int .i64 n2, .int .i64 n3, .int .i64 n4, .int .i64 n5]) := by rw [statV, ← h1, ← h2, ← h3, ← h4, ← h5]; exact rfl
      have fz : ∀ j, wr.frozen? ⟨R, j, none⟩ = false := fun j => by simp [World.frozen?, hg]
      have f0 := fz 0
      have f1 := fz 1
      have f2 := fz 2
      have f3 := fz 3
      have f4 := fz 4
      have b0 : wr.cell? ⟨R, 0, none⟩ = some (.int .i64 0) := by simp [World.cell?, hg]
      have b1 : wr.cell? ⟨R, 1, none⟩ = some (.int .i64 0) := by simp [World.cell?, hg]
      have b2 : wr.cell? ⟨R, 2, none⟩ = some (.int .i64 0) := by simp [World.cell?, hg]
      have b3 : wr.cell? ⟨R, 3, none⟩ = some (.int .i64 0) := by simp [World.cell?, hg]
      have b4 : wr.cell? ⟨R, 4, none⟩ = some (.int .i64 0) := by simp [World.cell?, hg]
      have G0 := heap_setCell_same wr R 0 _ _ (.int .i64 (n1 : Int)) hg
      have G1 := heap_setCell_same _ R 1 _ _ (.int .i64 (n2 : Int)) G0
      have G2 := heap_setCell_same _ R 2 _ _ (.int .i64 (n3 : Int)) G1
      have G3 := heap_setCell_same _ R 3 _ _ (.int .i64 (n4 : Int)) G2
      have G4 := heap_setCell_same _ R 4 _ _ (.int .i64 (n5 : Int)) G3
      have kk : Ch (fun q => q = R) wr (((((wr.setCell ⟨R, 0, none⟩ (.int .i64 (n1 : Int))).setCell ⟨R, 1, none⟩ (.int .i64 (n2 : Int))).setCell ⟨R, 2, none⟩ (.int .i64 (n3 : Int))).setCell ⟨R, 3, none⟩ (.int .i64 (n4 : Int))).setCell ⟨R, 4, none⟩ (.int .i64 (n5 : Int))) := (((((Ch.refl (fun q => q = R) wr).set ⟨R, 0, none⟩ _ rfl).set ⟨R, 1, none⟩ _ rfl).set ⟨R, 2, none⟩ _ rfl).set ⟨R, 3, none⟩ _ rfl).set ⟨R, 4, none⟩ _ rfl
      have HB : Hid (Below w.heap.size w _) := hbel.trans (kk.below (fun x e => by have := HR.out; omega) hbel.size)
      have HG : Hid _ := G4
      clear h1 h2 h3 h4 h5 hcs hfz hg fz G0 G1 G2 G3 G4 kk hbel
      go_wp2
      (try simp only [Exit.inBlock, Exit.then])
      refine bodyPost_ret (v := .agg #[.int .i64 n1, .int .i64 n2, .int .i64 n3, .int .i64 n4, .int .i64 n5]) ?_ rfl ?_
      · exact results_cell_row rfl _ _ R 80 _ _ _ rfl HG.out Try.underlying80 rfl Try.sizeStat
      exact ⟨by rw [HV.out], HB.out⟩
end Go.Proofs.Ythknkfggpdhdbaa
namespace Go.Proofs.Ythknkfggpdhdbaa
open Go.RowKit

theorem num_any (v : Int) (w : World) : Calls Try.prog 14 #[.int .i64 v] w fun e w' => e = .returned (.int .i64 v) ∧ w = w' := by
  go_enter Try.func14, Try.ntmps14
  go_wp2
  go_ret
  exact ⟨rfl, rfl⟩
theorem i64_mul (a b : Int) (h1 : 1 ≤ a) (h2 : a ≤ 8192) (h3 : 64 ≤ b) (h4 : b ≤ 65535) : IntKind.i64.wrap (a * b) = a * b := by
  have h5 : 0 ≤ a * b := Int.mul_nonneg (by omega) (by omega)
  have h6 : a * b ≤ 8192 * 65535 := Int.mul_le_mul h2 h4 (by omega) (by omega)
  simp [IntKind.wrap, IntKind.bits, IntKind.signed]; omega
theorem results_tmp5 {fn : Func} {a b c d e : Tmp} (h : fn.results = #[.tmp a, .tmp b, .tmp c, .tmp d, .tmp e]) (tmps : Array Value) (P : Program) (w : World) :
    (results fn tmps).run P w = .ok (.tuple #[tmps.getD a undef, tmps.getD b undef, tmps.getD c undef, tmps.getD d undef, tmps.getD e undef]) w := by
  simp [results, h]
/-- numbers that make a port that may be played with -/
structure SmallN (rx tx pool size : Nat) : Prop where
  h1 : 1 ≤ rx
  h2 : rx ≤ 4096
  h3 : 1 ≤ tx
  h4 : tx ≤ 4096
  h5 : 1 ≤ pool
  h6 : pool ≤ 8192
  h7 : 64 ≤ size
  h8 : size ≤ 65535
theorem small_least : SmallN 2 2 3 64 := ⟨by decide, by decide, by decide, by decide, by decide, by decide, by decide, by decide⟩
set_option maxRecDepth 100000 in
set_option maxHeartbeats 3200000 in
theorem port_any (w : World) (rx tx pool size : Int) :
    Calls Try.prog 27 #[.int .i64 rx, .int .i64 tx, .int .i64 pool, .int .i64 size] w fun e w' => ∃ (r t p s : Nat) (P gb gf gr gt : Nat), SmallN r t p s ∧ e = .returned (.tuple #[.pointer (some ⟨P, 0, none⟩), .int .i64 r, .int .i64 t, .int .i64 p, .int .i64 s]) ∧
      PortAt w' P gb gf gr gt (newK r t p s p) ∧ Below w.heap.size w w' ∧ ∀ q, PB P gb gf gr gt (newK r t p s p) q → w.heap.size ≤ q := by
  go_enter Try.func27, Try.ntmps27
  go_upto_region 1 with fail
  go_cut [13] (fun s0 wx => ∃ B : Bool, s0 = .bool B ∧ (B = true → 1 ≤ rx ∧ rx ≤ 4096 ∧ 1 ≤ tx ∧ tx ≤ 4096 ∧ 1 ≤ pool ∧ pool ≤ 8192 ∧ 64 ≤ size ∧ size ≤ 65535) ∧ wx = w)
  case first =>
    by_cases c0 : 1 ≤ rx
    case neg =>
      have d0 : decide (1 ≤ rx) = false := decide_eq_false c0
      clear c0
      go_wp2
      go_meet
      exact ⟨false, rfl, fun h => (by cases h), rfl⟩
    have d0 : decide (1 ≤ rx) = true := decide_eq_true c0
    by_cases c1 : rx ≤ 4096
    case neg =>
      have d1 : decide (rx ≤ 4096) = false := decide_eq_false c1
      clear c1
      go_wp2
      go_meet
      exact ⟨false, rfl, fun h => (by cases h), rfl⟩
    have d1 : decide (rx ≤ 4096) = true := decide_eq_true c1
    by_cases c2 : 1 ≤ tx
    case neg =>
      have d2 : decide (1 ≤ tx) = false := decide_eq_false c2
      clear c2
      go_wp2
      go_meet
      exact ⟨false, rfl, fun h => (by cases h), rfl⟩
    have d2 : decide (1 ≤ tx) = true := decide_eq_true c2
    by_cases c3 : tx ≤ 4096
    case neg =>
      have d3 : decide (tx ≤ 4096) = false := decide_eq_false c3
      clear c3
      go_wp2
      go_meet
      exact ⟨false, rfl, fun h => (by cases h), rfl⟩
    have d3 : decide (tx ≤ 4096) = true := decide_eq_true c3
    by_cases c4 : 1 ≤ pool
    case neg =>
      have d4 : decide (1 ≤ pool) = false := decide_eq_false c4
      clear c4
      go_wp2
      go_meet
      exact ⟨false, rfl, fun h => (by cases h), rfl⟩
    have d4 : decide (1 ≤ pool) = true := decide_eq_true c4
    by_cases c5 : pool ≤ 8192
    case neg =>
      have d5 : decide (pool ≤ 8192) = false := decide_eq_false c5
      clear c5
      go_wp2
      go_meet
      exact ⟨false, rfl, fun h => (by cases h), rfl⟩
    have d5 : decide (pool ≤ 8192) = true := decide_eq_true c5
    by_cases c6 : 64 ≤ size
    case neg =>
      have d6 : decide (64 ≤ size) = false := decide_eq_false c6
      clear c6
      go_wp2
      go_meet
      exact ⟨false, rfl, fun h => (by cases h), rfl⟩
    have d6 : decide (64 ≤ size) = true := decide_eq_true c6
    by_cases c7 : size ≤ 65535
    case neg =>
      have d7 : decide (size ≤ 65535) = false := decide_eq_false c7
      clear c7
      go_wp2
      go_meet
      exact ⟨false, rfl, fun h => (by cases h), rfl⟩
    have d7 : decide (size ≤ 65535) = true := decide_eq_true c7
    have wm : IntKind.i64.wrap (pool * size) = pool * size := i64_mul pool size (by omega) (by omega) (by omega) (by omega)
    by_cases c8 : pool * size ≤ 4000000
    case neg =>
      have d8 : decide (pool * size ≤ 4000000) = false := decide_eq_false c8
      clear c8
      go_wp2
      go_meet
      exact ⟨false, rfl, fun h => (by cases h), rfl⟩
    have d8 : decide (pool * size ≤ 4000000) = true := decide_eq_true c8
    go_wp2
    go_meet
    exact ⟨true, rfl, fun _ => ⟨c0, c1, c2, c3, c4, c5, c6, c7⟩, rfl⟩
  case rest =>
  obtain ⟨B, rfl, hB, rfl⟩ := hcut
  cases B with
  | false =>
    clear hB
    go_wp2_with fail
    refine (New_yes wc 2 2 3 64 (by decide) (by decide) (by decide) (by decide) (by decide) (by decide) (by decide) (by decide)).mono ?_
    rintro e w1 ⟨P, gb, gf, gr, gt, rfl, hp, hb, hq⟩
    go_wp2_with (first | (go_at_call 14; refine (num_any _ _).mono ?_; rintro e w2 ⟨rfl, rfl⟩))
    (try simp only [Exit.inBlock, Exit.then])
    refine bodyPost_ret (results_tmp5 rfl _ _ _) rfl ?_
    exact ⟨2, 2, 3, 64, P, gb, gf, gr, gt, small_least, rfl, hp, hb, hq⟩
  | true =>
    obtain ⟨c0, c1, c2, c3, c4, c5, c6, c7⟩ := hB rfl
    obtain ⟨r, rfl⟩ : ∃ r : Nat, rx = (r : Int) := ⟨rx.toNat, by omega⟩
    obtain ⟨t, rfl⟩ : ∃ r : Nat, tx = (r : Int) := ⟨tx.toNat, by omega⟩
    obtain ⟨p, rfl⟩ : ∃ r : Nat, pool = (r : Int) := ⟨pool.toNat, by omega⟩
    obtain ⟨s, rfl⟩ : ∃ r : Nat, size = (r : Int) := ⟨size.toNat, by omega⟩
    have hs : SmallN r t p s := ⟨by omega, by omega, by omega, by omega, by omega, by omega, by omega, by omega⟩
    clear hB c0 c1 c2 c3 c4 c5 c6 c7
    go_wp2_with fail
    refine (New_yes wc r t p s hs.h1 hs.h2 hs.h3 hs.h4 hs.h5 hs.h6 hs.h7 hs.h8).mono ?_
    rintro e w1 ⟨P, gb, gf, gr, gt, rfl, hp, hb, hq⟩
    go_wp2_with (first | (go_at_call 14; refine (num_any _ _).mono ?_; rintro e w2 ⟨rfl, rfl⟩))
    (try simp only [Exit.inBlock, Exit.then])
    refine bodyPost_ret (results_tmp5 rfl _ _ _) rfl ?_
    exact ⟨r, t, p, s, P, gb, gf, gr, gt, hs, rfl, hp, hb, hq⟩
end Go.Proofs.Ythknkfggpdhdbaa
namespace Go.Proofs.Ythknkfggpdhdbaa
open Go.RowKit

/-- a port behind some calls -/
structure Played (w w' : World) (P gb gf gr gt : Nat) (s s' : PS) : Prop where
  port : PortAt w' P gb gf gr gt s'
  inv : PInv s'
  pool : s'.pool = s.pool
  size : s'.size = s.size
  rxn : s'.rxn = s.rxn
  txn : s'.txn = s.txn
  ch : Ch (PB P gb gf gr gt s) w w'
  blk : ∀ q, PB P gb gf gr gt s' q → PB P gb gf gr gt s q ∨ w.heap.size ≤ q
variable {w w' w'' : World} {P gb gf gr gt : Nat} {s s' s'' : PS}
theorem Played.none (h : PortAt w P gb gf gr gt s) (hi : PInv s) (hb : Below w.heap.size w w') : Played w w' P gb gf gr gt s s :=
  ⟨h.below hb, hi, rfl, rfl, rfl, rfl, Ch.ofBelow hb, fun _ h => .inl h⟩
theorem Played.trans (h : Played w w' P gb gf gr gt s s') (k : Played w' w'' P gb gf gr gt s' s'') : Played w w'' P gb gf gr gt s s'' :=
  ⟨k.port, k.inv, k.pool.trans h.pool, k.size.trans h.size, k.rxn.trans h.rxn, k.txn.trans h.txn, h.ch.trans k.ch (fun x hx e => (h.blk x e).elim id (fun e => absurd e (by omega))), fun q hq => (k.blk q hq).elim (fun h' => h.blk q h') (fun e => .inr (by have := h.ch.size; omega))⟩
theorem PB.upd {i b n : Nat} (hp : s'.pool = s.pool) (hb : s'.bb = updF s.bb i (some b)) (ho : s.bb i = some b ∨ (s.bb i = none ∧ n ≤ b)) (hi : i < s.pool) : ∀ q, PB P gb gf gr gt s' q → PB P gb gf gr gt s q ∨ n ≤ q := by
  intro q hq
  rcases hq with h | h | h | h | h | ⟨j, hj, hjb⟩
  · exact .inl (.inl h)
  · exact .inl (.inr (.inl h))
  · exact .inl (.inr (.inr (.inl h)))
  · exact .inl (.inr (.inr (.inr (.inl h))))
  · exact .inl (.inr (.inr (.inr (.inr (.inl h)))))
  · rw [hb] at hjb
    by_cases e : j = i
    · subst e
      rw [updF_same] at hjb
      simp only [Option.some.injEq] at hjb
      subst hjb
      rcases ho with h | ⟨_, h⟩
      · exact .inl (.inr (.inr (.inr (.inr (.inr ⟨j, hi, h⟩)))))
      · exact .inr h
    · rw [updF_other _ _ _ e] at hjb
      exact .inl (.inr (.inr (.inr (.inr (.inr ⟨j, by omega, hjb⟩)))))
theorem PB.b {i b n : Nat} (ho : s.bb i = some b ∨ (s.bb i = none ∧ n ≤ b)) (hi : i < s.pool) {x : Nat} (hx : x < n) (e : x = b) : PB P gb gf gr gt s x := by
  rcases ho with h | ⟨_, h⟩
  · exact .inr (.inr (.inr (.inr (.inr ⟨i, hi, by rw [e]; exact h⟩))))
  · omega
theorem hE_nil {i : Int} (h : hE s i = 0) : ∃ k : Nat, i = (k : Int) ∧ k < s.pool ∧ s.pl k = 4 := by
  unfold hE at h
  split at h
  · cases h
  · split at h
    · rename_i h1 h2
      exact ⟨i.toNat, by omega, by omega, h2⟩
    · cases h
theorem refill_t (h : PortAt w P gb gf gr gt s) (hi : PInv s) (n : Int) :
    Calls Try.prog 15 #[.pointer (some ⟨P, 0, none⟩), .int .i64 n] w fun e w' => ∃ k : Nat, k = min n.toNat (min s.fr.length (s.rxn - s.rx.length)) ∧ e = .returned (.int .i64 (k : Int)) ∧ Played w w' P gb gf gr gt s (s.refilled k) := by
  refine (Refill_any w P gb gf gr gt s h n hi.frlt).mono ?_
  rintro e w' ⟨k, hk, rfl, hp, hc⟩
  exact ⟨k, hk, rfl, hp, hi.refill k (by omega), rfl, rfl, rfl, rfl, hc.mono (fun x _ e => e.elim (fun e => .inl e) (fun e => e.elim (fun e => .inr (.inl e)) (fun e => .inr (.inr (.inr (.inl e)))))), fun q hq => .inl hq⟩
theorem arrive_t (h : PortAt w P gb gf gr gt s) (hi : PInv s) (a : Option Addr) (c : Nat) (fr : List Nat) (hseg : Seg .u8 w a (toI fr)) (h256 : ∀ x ∈ fr, x < 256) (hap : ∀ x, fr ≠ [] → a = some x → x.block ≠ P ∧ x.block ≠ gb) :
    Calls Try.prog 16 #[.pointer (some ⟨P, 0, none⟩), .slice a fr.length c] w fun e w' => e = .returned (.int .i64 (aE s fr.length)) ∧ ((aE s fr.length ≠ 0 ∧ Below w.heap.size w w') ∨ (aE s fr.length = 0 ∧ ∃ (hk : s.filled < s.rx.length) (b : Nat), Played w w' P gb gf gr gt s (s.arrived s.rx[s.filled] b fr))) := by
  by_cases he : aE s fr.length = 0
  · have he' := he
    unfold aE at he'
    split at he'
    · cases he'
    · split at he'
      · cases he'
      · split at he'
        · cases he'
        · rename_i h1 h2 h3
          have hfl := hi.fl
          have hk : s.filled < s.rx.length := by omega
          have hlt := hi.rxlt _ (List.getElem_mem hk)
          refine (Arrive_yes w P gb gf gr gt s h a c fr hseg h256 hap (by omega) hk hlt).mono ?_
          rintro e w' ⟨b, rfl, hp, hc, ho⟩
          rw [he]
          exact ⟨rfl, .inr ⟨rfl, hk, b, hp, hi.arrive hk (by omega), rfl, rfl, rfl, rfl, hc.mono (fun x hx e => e.elim (fun e => .inl e) (fun e => e.elim (fun e => .inr (.inl e)) (fun e => PB.b ho hlt hx e))), PB.upd rfl rfl ho hlt⟩⟩
  · refine (Arrive_no w P gb gf gr gt s h a fr.length c he).mono ?_
    rintro e w' ⟨rfl, hb⟩
    exact ⟨rfl, .inl ⟨he, hb⟩⟩
theorem poll_t (h : PortAt w P gb gf gr gt s) (hi : PInv s) :
    Calls Try.prog 20 #[.pointer (some ⟨P, 0, none⟩)] w fun e w' => (s.filled = 0 ∧ e = .returned (.tuple #[.int .i64 0, .slice none 0 0, .bool false]) ∧ w = w') ∨
      ∃ (m i b : Nat) (rest : List Nat), s.filled = m + 1 ∧ s.rx = i :: rest ∧ i < s.pool ∧ e = .returned (.tuple #[.int .i64 i, .slice (some ⟨b, 0, none⟩) (s.ln i) (s.ln i), .bool true]) ∧ (s.bb i = some b ∨ (s.bb i = none ∧ w.heap.size ≤ b)) ∧ Played w w' P gb gf gr gt s (s.polled i b rest m) := by
  by_cases hf : s.filled = 0
  · refine (Poll_no w P gb gf gr gt s h hf).mono ?_
    rintro e w' ⟨rfl, rfl⟩
    exact .inl ⟨hf, rfl, rfl⟩
  · have hfl := hi.fl
    have hql : s.rx.length ≤ 100000 := by obtain ⟨_, _, l⟩ := h.lr; have := l.ql; have := l.nb; omega
    cases hx : s.rx with
    | nil => rw [hx] at hfl; simp at hfl; omega
    | cons i rest =>
      have hlt := hi.rxlt i (by rw [hx]; simp)
      refine (Poll_yes w P gb gf gr gt s h (s.filled - 1) i rest (by omega) (by omega) hx hlt (hi.ln i hlt)).mono ?_
      rintro e w' ⟨b, rfl, hp, hc, ho⟩
      exact .inr ⟨s.filled - 1, i, b, rest, by omega, rfl, hlt, rfl, ho, hp, hi.poll hx (by omega), rfl, rfl, rfl, rfl, hc.mono (fun x hx e => e.elim (fun e => .inl e) (fun e => .inr (.inl e))), PB.upd rfl rfl ho hlt⟩
theorem take_t (h : PortAt w P gb gf gr gt s) (hi : PInv s) :
    Calls Try.prog 51 #[.pointer (some ⟨P, 0, none⟩)] w fun e w' => (s.fr = [] ∧ e = .returned (.tuple #[.int .i64 0, .slice none 0 0, .int .i64 33]) ∧ w = w') ∨
      ∃ (i b : Nat) (rest : List Nat), s.fr = i :: rest ∧ i < s.pool ∧ e = .returned (.tuple #[.int .i64 i, .slice (some ⟨b, 0, none⟩) s.size s.size, .int .i64 0]) ∧ (s.bb i = some b ∨ (s.bb i = none ∧ w.heap.size ≤ b)) ∧ Played w w' P gb gf gr gt s (s.taken i b rest) := by
  cases hx : s.fr with
  | nil =>
    refine (Take_no w P gb gf gr gt s h hx).mono ?_
    rintro e w' ⟨rfl, rfl⟩
    exact .inl ⟨rfl, rfl, rfl⟩
  | cons i rest =>
    have hlt := hi.frlt i (by rw [hx]; simp)
    refine (Take_yes w P gb gf gr gt s h i rest hx hlt).mono ?_
    rintro e w' ⟨b, rfl, hp, hc, ho⟩
    exact .inr ⟨i, b, rest, rfl, hlt, rfl, ho, hp, hi.take hx, rfl, rfl, rfl, rfl, hc.mono (fun x hx e => e.elim (fun e => .inl e) (fun e => e.elim (fun e => .inr (.inl e)) (fun e => PB.b ho hlt hx e))), PB.upd rfl rfl ho hlt⟩
theorem PInv.bbs (h : PInv s) (bb : Nat → Option Nat) : PInv { s with bb := bb } := ⟨h.nd, h.lt, h.fl, h.p1, h.p2, h.p3, h.p5, h.pr, h.ln⟩
theorem buffer_t (h : PortAt w P gb gf gr gt s) (hi : PInv s) (i : Int) :
    Calls Try.prog 52 #[.pointer (some ⟨P, 0, none⟩), .int .i64 i] w fun e w' => (hE s i ≠ 0 ∧ e = .returned (.tuple #[.slice none 0 0, .int .i64 (hE s i)]) ∧ w = w') ∨
      ∃ (k b : Nat), i = (k : Int) ∧ hE s i = 0 ∧ k < s.pool ∧ s.pl k = 4 ∧ e = .returned (.tuple #[.slice (some ⟨b, 0, none⟩) s.size s.size, .int .i64 0]) ∧ (s.bb k = some b ∨ (s.bb k = none ∧ w.heap.size ≤ b)) ∧ Played w w' P gb gf gr gt s { s with bb := updF s.bb k (some b) } := by
  by_cases he : hE s i = 0
  · obtain ⟨k, rfl, hk, h4⟩ := hE_nil he
    refine (Buffer_yes w P gb gf gr gt s h k hk h4).mono ?_
    rintro e w' ⟨b, rfl, hp, hc, ho⟩
    exact .inr ⟨k, b, rfl, he, hk, h4, rfl, ho, hp, hi.bbs _, rfl, rfl, rfl, rfl, hc.mono (fun x hx e => .inr (.inl e)), PB.upd rfl rfl ho hk⟩
  · refine (Buffer_no w P gb gf gr gt s h i he).mono ?_
    rintro e w' ⟨rfl, rfl⟩
    exact .inl ⟨he, rfl, rfl⟩
theorem release_t (h : PortAt w P gb gf gr gt s) (hi : PInv s) (i : Int) :
    Calls Try.prog 53 #[.pointer (some ⟨P, 0, none⟩), .int .i64 i] w fun e w' => e = .returned (.int .i64 (hE s i)) ∧ ((hE s i ≠ 0 ∧ w = w') ∨
      ∃ k : Nat, i = (k : Int) ∧ hE s i = 0 ∧ k < s.pool ∧ s.pl k = 4 ∧ Played w w' P gb gf gr gt s { s with pl := updF s.pl k 1, fr := s.fr ++ [k] }) := by
  by_cases he : hE s i = 0
  · obtain ⟨k, rfl, hk, h4⟩ := hE_nil he
    refine (Release_yes w P gb gf gr gt s h k hk h4 (hi.room hk (by omega))).mono ?_
    rintro e w' ⟨rfl, hp, hc⟩
    exact ⟨by rw [he], .inr ⟨k, rfl, he, hk, h4, hp, hi.release hk h4, rfl, rfl, rfl, rfl, hc.mono (fun x hx e => e.elim (fun e => .inl e) (fun e => e.elim (fun e => .inr (.inl e)) (fun e => .inr (.inr (.inl e))))), fun q hq => .inl hq⟩⟩
  · refine (Release_no w P gb gf gr gt s h i he).mono ?_
    rintro e w' ⟨rfl, rfl⟩
    exact ⟨rfl, .inl ⟨he, rfl⟩⟩
theorem sE_zero {i n : Int} (h : sE s i n = 0) : ∃ k m : Nat, i = (k : Int) ∧ n = (m : Int) ∧ k < s.pool ∧ s.pl k = 4 ∧ m ≤ s.size ∧ s.tx.length ≠ s.txn := by
  unfold sE at h
  split at h
  · cases h
  · rename_i hn
    split at h
    · rename_i he
      split at h
      · cases h
      · rename_i ht
        obtain ⟨k, rfl, hk, h4⟩ := hE_nil he
        exact ⟨k, n.toNat, rfl, by omega, hk, h4, by omega, ht⟩
    · rename_i he; exact absurd h he
theorem send_t (h : PortAt w P gb gf gr gt s) (hi : PInv s) (i n : Int) :
    Calls Try.prog 22 #[.pointer (some ⟨P, 0, none⟩), .int .i64 i, .int .i64 n] w fun e w' => e = .returned (.int .i64 (sE s i n)) ∧ ((sE s i n ≠ 0 ∧ Below w.heap.size w w') ∨
      ∃ k m : Nat, i = (k : Int) ∧ n = (m : Int) ∧ sE s i n = 0 ∧ k < s.pool ∧ s.pl k = 4 ∧ m ≤ s.size ∧ Played w w' P gb gf gr gt s { s with pl := updF s.pl k 5, ln := updF s.ln k m, tx := s.tx ++ [k] }) := by
  by_cases he : sE s i n = 0
  · obtain ⟨k, m, rfl, rfl, hk, h4, hm, ht⟩ := sE_zero he
    have hq : s.tx.length ≤ s.txn := by obtain ⟨_, _, l⟩ := h.lt; exact l.ql
    refine (Send_yes w P gb gf gr gt s h k m hk h4 hm (by omega)).mono ?_
    rintro e w' ⟨rfl, hp, hc⟩
    exact ⟨by rw [he], .inr ⟨k, m, rfl, rfl, he, hk, h4, hm, hp, hi.send hk h4 hm, rfl, rfl, rfl, rfl, hc.mono (fun x hx e => e.elim (fun e => .inl e) (fun e => e.elim (fun e => .inr (.inl e)) (fun e => .inr (.inr (.inr (.inr (.inl e))))))), fun q hq => .inl hq⟩⟩
  · refine (Send_no w P gb gf gr gt s h i n he).mono ?_
    rintro e w' ⟨rfl, hb⟩
    exact ⟨rfl, .inl ⟨he, hb⟩⟩
theorem drain_t (h : PortAt w P gb gf gr gt s) (hi : PInv s) :
    Calls Try.prog 23 #[.pointer (some ⟨P, 0, none⟩)] w fun e w' => (s.tx = [] ∧ e = .returned (.tuple #[.slice none 0 0, .bool false]) ∧ w = w') ∨
      ∃ (i g b : Nat) (rest : List Nat), s.tx = i :: rest ∧ i < s.pool ∧ e = .returned (.tuple #[.slice (some ⟨g, 0, none⟩) (s.ln i) (s.ln i), .bool true]) ∧ w'.ownsRow w.heap.size 5 1 (.slice (some ⟨g, 0, none⟩) (s.ln i) (s.ln i)) (s.ln i) ((toI ((s.da i).take (s.ln i))).map (Value.int .u8)) ∧ g ≠ b ∧ (s.bb i = some b ∨ (s.bb i = none ∧ w.heap.size ≤ b)) ∧ Played w w' P gb gf gr gt s (s.drained i b rest) := by
  cases hx : s.tx with
  | nil =>
    refine (Drain_no w P gb gf gr gt s h hx).mono ?_
    rintro e w' ⟨rfl, rfl⟩
    exact .inl ⟨rfl, rfl, rfl⟩
  | cons i rest =>
    have hlt := hi.txlt i (by rw [hx]; simp)
    have h5 : s.pl i = 5 := (hi.p5 i hlt).2 (by rw [hx]; simp)
    refine (Drain_yes w P gb gf gr gt s h i rest hx hlt (hi.ln i hlt) (hi.room hlt (by omega))).mono ?_
    rintro e w' ⟨g, b, rfl, ho, hp, hc, hb, hg⟩
    exact .inr ⟨i, g, b, rest, rfl, hlt, rfl, ho, hg, hb, hp, hi.drain hx, rfl, rfl, rfl, rfl, hc.mono (fun x hx e => e.elim (fun e => .inl e) (fun e => e.elim (fun e => .inr (.inl e)) (fun e => .inr (.inr (.inl e))))), PB.upd rfl rfl hb hlt⟩
end Go.Proofs.Ythknkfggpdhdbaa
namespace Go.Proofs.Ythknkfggpdhdbaa
open Go.RowKit Go.ChangeShapes Go.WideShapes

/-- the elements lie one behind the other, K cells each -/
def ListG {α : Type} (K : Nat) (cells : α → List Value) (ok : α → Prop) (w : World) (a : Option Addr) (ops : List α) : Prop :=
  ops = [] ∨ ∃ b off, a = some ⟨b, off, none⟩ ∧ b < w.heap.size ∧ ∀ (i : Nat) (o : α), ops[i]? = some o → ok o ∧ ∀ j, j < K → w.cell? ⟨b, off + i * K + j, none⟩ = (cells o)[j]?
theorem ListG.old {α : Type} {K : Nat} {cells : α → List Value} {ok : α → Prop} {w w' : World} {a : Option Addr} {ops : List α} (h : ListG K cells ok w a ops) (hb : Below w.heap.size w w') : ListG K cells ok w' a ops := by
  rcases h with h | ⟨b, off, ha, hlt, hc⟩
  · exact .inl h
  · refine .inr ⟨b, off, ha, by have := hb.size; omega, fun i o ho => ⟨(hc i o ho).1, fun j hj => ?_⟩⟩
    rw [hb.cell (p := ⟨b, off + i * K + j, none⟩) hlt]
    exact (hc i o ho).2 j hj
theorem ListG.at {α : Type} {K : Nat} {cells : α → List Value} {ok : α → Prop} {w : World} {a : Option Addr} {ops : List α} (h : ListG K cells ok w a ops) (i : Nat) (o : α) (ho : ops[i]? = some o) :
    ok o ∧ ∃ b off, a = some ⟨b, off, none⟩ ∧ b < w.heap.size ∧ ∀ j, j < K → w.cell? ⟨b, off + i * K + j, none⟩ = (cells o)[j]? := by
  rcases h with h | ⟨b, off, ha, hlt, hc⟩
  · rw [h] at ho; simp at ho
  · exact ⟨(hc i o ho).1, b, off, ha, hlt, (hc i o ho).2⟩
theorem open_list {α : Type} (K : Nat) (cells : α → List Value) (ok : α → Prop) {H : Type} {enc : TypeId × Value → H} {W : World} {t e : TypeId} {a : Option Addr} {len cap : Nat} {d : DataW H} {p : List MemPlace} {fuel : Nat}
    (ht : Try.prog.underlying t = some (.slice e)) (hc : Try.prog.cellsOf e = K) (hK : 0 < K) (hcl : ∀ o, (cells o).length = K)
    (hel : ∀ (fuel : Nat) (cs : List Value) (x : DataW H × List MemPlace), DataW.trod enc Try.prog W 0 (fun _ => true) true fuel e cs = some x → ∃ o : α, cs = cells o ∧ ok o)
    (h : DataW.trod enc Try.prog W 0 (fun _ => true) true fuel t [.slice a len cap] = some (d, p)) :
    ∃ ops : List α, ops.length = len ∧ ListG K cells ok W a ops ∧ len ≤ 9223372036854775807 := by
  rcases Deep.open_slice ht h with ⟨hcs, hx⟩ | ⟨ad, l, c, m, n, D, Pl, hcs, _, hl, hm, hmm, hx, hev⟩
  · simp only [List.cons.injEq, Value.slice.injEq, and_true] at hcs
    obtain ⟨rfl, rfl, rfl⟩ := hcs
    exact ⟨[], rfl, .inl rfl, by omega⟩
  · simp only [List.cons.injEq, Value.slice.injEq, and_true] at hcs
    obtain ⟨rfl, rfl, rfl⟩ := hcs
    simp only [if_true] at hmm
    subst hmm
    have hlen : len ≤ 9223372036854775807 := by unfold maxLen at hm; omega
    have hall : ∀ i, i < len → ∃ o : α, ok o ∧ ∀ j, j < K → W.cell? (ad.add (i * K + j)) = (cells o)[j]? := by
      intro i hi
      obtain ⟨cs', h1, h2⟩ := hev i (by omega)
      rw [hc] at h1
      obtain ⟨_, _, hcc⟩ := World.cells?_some h1
      obtain ⟨o, rfl, hok⟩ := hel _ _ _ h2
      refine ⟨o, hok, fun j hj => ?_⟩
      have := hcc j hj
      rwa [Deep.add_add] at this
    have hbuild : ∀ k, k ≤ len → ∃ ops : List α, ops.length = k ∧ ∀ i o, ops[i]? = some o → ok o ∧ ∀ j, j < K → W.cell? (ad.add (i * K + j)) = (cells o)[j]? := by
      intro k
      induction k with
      | zero => intro _; exact ⟨[], rfl, by intro i o ho; simp at ho⟩
      | succ k ih =>
        intro hk
        obtain ⟨ops, hl', hops⟩ := ih (by omega)
        obtain ⟨o, ho⟩ := hall k (by omega)
        refine ⟨ops ++ [o], by simp [hl'], ?_⟩
        intro i o' hi'
        by_cases hik : i < k
        · rw [List.getElem?_append_left (by omega)] at hi'
          exact hops i o' hi'
        · rw [List.getElem?_append_right (by omega)] at hi'
          have hi0 : i = k := by
            have := (List.getElem?_eq_some_iff.1 hi').1
            simp at this
            omega
          subst hi0
          rw [hl', Nat.sub_self] at hi'
          simp at hi'
          subst hi'
          exact ho
    obtain ⟨ops, hol, hops⟩ := hbuild len (Nat.le_refl _)
    refine ⟨ops, hol, ?_, hlen⟩
    by_cases h0 : ops = []
    · exact .inl h0
    · have hpos : 0 < ops.length := by
        cases ops with
        | nil => exact absurd rfl h0
        | cons _ _ => simp
      obtain ⟨o, ho⟩ : ∃ o, ops[0]? = some o := ⟨ops[0], by simp [hpos]⟩
      have hc0 := (hops 0 o ho).2 0 hK
      simp only [Nat.zero_mul, Nat.zero_add] at hc0
      obtain ⟨v0, hv0⟩ : ∃ v0, (cells o)[0]? = some v0 := ⟨(cells o)[0]'(by rw [hcl]; exact hK), by simp [hcl, hK]⟩
      rw [hv0] at hc0
      obtain ⟨b, off, spot⟩ := ad
      have hspot : spot = none := by simpa [Addr.add] using World.cell?_spot hc0
      subst hspot
      refine .inr ⟨b, off, rfl, World.block_lt_of_cell? W _ hc0, fun i o' hi' => ⟨(hops i o' hi').1, fun j hj => ?_⟩⟩
      have := (hops i o' hi').2 j hj
      rw [Addr.add_lit] at this
      rw [Nat.add_assoc]
      exact this
theorem open_i64G {H : Type} {enc : TypeId × Value → H} {W : World} {fuel : Nat} {c : Value} {y : DataW H × List MemPlace}
    (h : DataW.trod enc Try.prog W 0 (fun _ => true) true fuel 3 [c] = some y) : ∃ a : Int, c = .int .i64 a ∧ -9223372036854775808 ≤ a ∧ a ≤ 9223372036854775807 := by
  obtain ⟨a, e0, _, wa⟩ := DataW.trod_int Try.underlying3 h
  simp only [List.cons.injEq, and_true] at e0
  subst e0
  refine ⟨a, rfl, ?_⟩
  simp [Lit.wf, IntKind.min, IntKind.max, IntKind.bits, IntKind.signed] at wa
  omega
/-- a step -/
structure OpV where
  kd : Int
  two : Bool
  i : Int
  n : Int
  a : Option Addr
  c : Nat
  fr : List Nat
def OpV.cells (o : OpV) : List Value := [.int .i64 o.kd, .bool o.two, .int .i64 o.i, .int .i64 o.n, .slice o.a o.fr.length o.c]
structure OpV.ok (W : World) (o : OpV) : Prop where
  seg : Seg .u8 W o.a (toI o.fr)
  h256 : ∀ x ∈ o.fr, x < 256
  hn : -9223372036854775808 ≤ o.n ∧ o.n ≤ 9223372036854775807
  hl : o.fr.length ≤ 9223372036854775807
theorem Try.cellsInt : Try.prog.cellsOf 3 = 1 := by kernel_rfl
theorem Try.cellsBool : Try.prog.cellsOf 4 = 1 := by kernel_rfl
theorem Try.cellsByte : Try.prog.cellsOf 5 = 1 := by kernel_rfl
theorem Try.cellsBytes : Try.prog.cellsOf 43 = 1 := by kernel_rfl
theorem Try.cellsOp : Try.prog.cellsOf 68 = 5 := by kernel_rfl
theorem list5 {α : Type} (l : List α) (h : l.length = 5) : ∃ a b c d e, l = [a, b, c, d, e] := by
  match l, h with
  | [a, b, c, d, e], _ => exact ⟨a, b, c, d, e, rfl⟩
theorem open_rowF {H : Type} {enc : TypeId × Value → H} {W : World} {fuel : Nat} {t e : TypeId} {k : IntKind} {c : Value} {y : DataW H × List MemPlace} (ht : Try.prog.underlying t = some (.slice e)) (he : Try.prog.underlying e = some (.int k)) (hc : Try.prog.cellsOf e = 1)
    (h : DataW.trod enc Try.prog W 0 (fun _ => true) true fuel t [c] = some y) : ∃ a len cap zs, c = .slice a len cap ∧ IsRow k W a len cap zs := by
  rcases open_ints ht he hc h with ⟨hcs, hx⟩ | ⟨x, l, cp, zs, hcs, _, hl, hm, hz, hx, hcell, hwz⟩
  · simp only [List.cons.injEq, and_true] at hcs
    subst hcs
    exact ⟨none, 0, 0, [], rfl, .inl ⟨rfl, rfl, rfl, rfl⟩⟩
  · simp only [List.cons.injEq, and_true] at hcs
    subst hcs
    exact ⟨_, l, cp, zs, rfl, .inr ⟨_, rfl, hl, hm, by simpa using hz, hcell, hwz⟩⟩
theorem open_op {H : Type} {enc : TypeId × Value → H} {W : World} (fuel : Nat) (cs : List Value) (x : DataW H × List MemPlace)
    (h : DataW.trod enc Try.prog W 0 (fun _ => true) true fuel 68 cs = some x) : ∃ o : OpV, cs = o.cells ∧ o.ok W := by
  obtain ⟨xs, n, _, rfl, hl, hlen, hf⟩ := DataW.trod_struct Try.underlying68 h
  rw [Try.cellsOp] at hl
  obtain ⟨c0, c1, c2, c3, c4, rfl⟩ := list5 cs hl
  obtain ⟨y0, y1, y2, y3, y4, rfl⟩ := list5 xs hlen
  have f0 := hf 0 _ rfl
  have f1 := hf 1 _ rfl
  have f2 := hf 2 _ rfl
  have f3 := hf 3 _ rfl
  have f4 := hf 4 _ rfl
  simp [Try.cellsInt, Try.cellsBool, Try.cellsBytes] at f0 f1 f2 f3 f4
  obtain ⟨kd, rfl, _⟩ := open_i64G f0
  obtain ⟨two, e1, _⟩ := DataW.trod_bool Try.underlying4 f1
  simp only [List.cons.injEq, and_true] at e1
  subst e1
  obtain ⟨i, rfl, _⟩ := open_i64G f2
  obtain ⟨nn, rfl, hn1, hn2⟩ := open_i64G f3
  obtain ⟨a, len, cap, zs, rfl, hr⟩ := open_rowF Try.underlying43 Try.underlying5 Try.cellsByte f4
  obtain ⟨bs, hl, hs, h1, h2, h256⟩ := hr.bytes
  exact ⟨⟨kd, two, i, nn, a, cap, bs⟩, by simp [OpV.cells, hl], hs, h256, ⟨hn1, hn2⟩, by show bs.length ≤ _; omega⟩
def Ops (w : World) (a : Option Addr) (ops : List OpV) : Prop := ListG 5 OpV.cells (OpV.ok w) w a ops
theorem open_ops {H : Type} {enc : TypeId × Value → H} {W : World} {a : Option Addr} {len cap : Nat} {d : DataW H} {p : List MemPlace} {fuel : Nat}
    (h : DataW.trod enc Try.prog W 0 (fun _ => true) true fuel 34 [.slice a len cap] = some (d, p)) :
    ∃ ops : List OpV, ops.length = len ∧ Ops W a ops ∧ len ≤ 9223372036854775807 :=
  open_list 5 OpV.cells (OpV.ok W) Try.underlying34 Try.cellsOp (by decide) (fun _ => rfl) open_op h
end Go.Proofs.Ythknkfggpdhdbaa
namespace Go.Proofs.Ythknkfggpdhdbaa
open Go.RowKit

theorem das {s : PS} (h : PInv s) (da : Nat → List Nat) : PInv { s with da := da } := ⟨h.nd, h.lt, h.fl, h.p1, h.p2, h.p3, h.p5, h.pr, h.ln⟩
/-- what holds of the port at every round -/
structure At (w0 wr : World) (P gb gf gr gt : Nat) (p sz : Nat) (s : PS) : Prop where
  port : PortAt wr P gb gf gr gt s
  inv : PInv s
  pool : s.pool = p
  size : s.size = sz
  bel : Below w0.heap.size w0 wr
  blk : ∀ q, PB P gb gf gr gt s q → w0.heap.size ≤ q
theorem At.next {w0 wr w' : World} {P gb gf gr gt p sz : Nat} {s s' : PS} (h : At w0 wr P gb gf gr gt p sz s) (k : Played wr w' P gb gf gr gt s s') : At w0 w' P gb gf gr gt p sz s' :=
  ⟨k.port, k.inv, k.pool.trans h.pool, k.size.trans h.size, h.bel.trans (k.ch.below h.blk h.bel.size), fun q hq => (k.blk q hq).elim (h.blk q) (fun e => by have := h.bel.size; omega)⟩
theorem At.below {w0 wr w' : World} {P gb gf gr gt p sz : Nat} {s : PS} (h : At w0 wr P gb gf gr gt p sz s) (hb : Below wr.heap.size wr w') : At w0 w' P gb gf gr gt p sz s := h.next (.none h.port h.inv hb)

theorem release_y {w : World} {P gb gf gr gt : Nat} {s : PS} (h : PortAt w P gb gf gr gt s) (hi : PInv s) (k : Nat) (hk : k < s.pool) (h4 : s.pl k = 4) :
    Calls Try.prog 53 #[.pointer (some ⟨P, 0, none⟩), .int .i64 k] w fun e w' => e = .returned (.int .i64 0) ∧ ∃ s', Played w w' P gb gf gr gt s s' := by
  have he0 : hE s (k : Int) = 0 := hE_held hk h4
  refine (release_t h hi (k : Int)).mono ?_
  rintro e w' ⟨rfl, ⟨hne, _⟩ | ⟨k', _, _, _, _, hp⟩⟩
  · exact absurd he0 hne
  · exact ⟨by rw [he0], _, hp⟩
/-- a buffer that is held is written into, at a place -/
theorem At.write {w0 wr : World} {P gb gf gr gt p sz : Nat} {s : PS} (h : At w0 wr P gb gf gr gt p sz s) (i b : Nat) (hi : i < s.pool) (hb : s.bb i = some b) (j x : Nat) (hj : j < sz) (hx : x < 256) :
    At w0 (wr.setCell ⟨b, j, none⟩ (.int .u8 (x : Int))) P gb gf gr gt p sz { s with da := updF s.da i ((s.da i).set j x) } ∧ (∃ z : Nat, (s.da i)[j]? = some z ∧ wr.cell? ⟨b, j, none⟩ = some (.int .u8 (z : Int))) ∧ wr.frozen? ⟨b, j, none⟩ = false := by
  have hr := h.port.row i b hi hb
  have hdl := h.port.dl i hi
  have hsz := h.size
  obtain ⟨hst, hgr⟩ := hr.stored j (.int .u8 (x : Int))
  have e : ((toI (s.da i)).map (Value.int .u8)).set j (.int .u8 (x : Int)) = (toI ((s.da i).set j x)).map (Value.int .u8) := by simp [toI, List.map_set]
  rw [e] at hst
  have kk : Ch (fun q => q = b) wr (wr.setCell ⟨b, j, none⟩ (.int .u8 (x : Int))) := (Ch.refl _ wr).set _ _ rfl
  have hp := h.port.setDa i b hi hb kk ((s.da i).set j x) (by rw [List.length_set]; exact hdl) (fun y hy => by
    rcases List.mem_or_eq_of_mem_set hy with h1 | h1
    · exact h.port.d256 i hi y h1
    · omega) hst
  refine ⟨⟨hp, das h.inv _, h.pool, h.size, h.bel.trans (kk.below (fun q e => by rw [e]; exact h.blk b (.inr (.inr (.inr (.inr (.inr ⟨i, hi, hb⟩)))))) h.bel.size), h.blk⟩, ?_, hr.frozenAt j⟩
  have hjl : j < (s.da i).length := by omega
  refine ⟨(s.da i)[j], by simp [hjl], ?_⟩
  rw [hr.cellAt j (by omega)]
  simp [toI, hjl]

theorem At.old {w0 wr : World} {P gb gf gr gt p sz : Nat} {s : PS} (h : At w0 wr P gb gf gr gt p sz s) (q : Nat) (hq : PB P gb gf gr gt s q) : q < wr.heap.size := by
  obtain ⟨_, _, l1⟩ := h.port.lf
  obtain ⟨_, _, l2⟩ := h.port.lr
  obtain ⟨_, _, l3⟩ := h.port.lt
  rcases hq with rfl | rfl | rfl | rfl | rfl | ⟨j, hj, hjb⟩
  · exact h.port.Pl
  · exact h.port.bl
  · exact (l1.row.lt _ rfl).2
  · exact (l2.row.lt _ rfl).2
  · exact (l3.row.lt _ rfl).2
  · exact ((h.port.row j q hj hjb).lt q rfl).2
/-- a step's bytes do not lie in the port -/
theorem At.apart {w0 wr : World} {P gb gf gr gt p sz : Nat} {s : PS} (h : At w0 wr P gb gf gr gt p sz s) {oa : Option Addr} {fr : List Nat} (hs : Seg .u8 w0 oa (toI fr)) : ∀ x, fr ≠ [] → oa = some x → x.block ≠ P ∧ x.block ≠ gb := fun x hx e => by
  rcases hs.lt with h1 | ⟨b', o', e', hb'⟩
  · rw [toI_len] at h1; exact absurd (List.eq_nil_of_length_eq_zero h1) hx
  · rw [e] at e'
    simp only [Option.some.injEq] at e'
    subst e'
    have u1 := h.blk P (.inl rfl)
    have u2 := h.blk gb (.inr (.inl rfl))
    exact ⟨by show b' ≠ _; omega, by show b' ≠ _; omega⟩
/-- the cells of a step of the script -/
theorem ops_at {w wr : World} {a : Option Addr} {ops : List OpV} (h : Ops w a ops) (hb : Below w.heap.size w wr) (k : Nat) (hk : k < ops.length) : ∃ (ob off : Nat) (kd : Int) (two : Bool) (i n : Int) (oa : Option Addr) (oc : Nat) (fr : List Nat), a = some ⟨ob, off, none⟩ ∧ ob < w.heap.size ∧ OpV.ok w ⟨kd, two, i, n, oa, oc, fr⟩ ∧ ops[k]? = some ⟨kd, two, i, n, oa, oc, fr⟩ ∧
    wr.cell? ⟨ob, off + k * 5, none⟩ = some (.int .i64 kd) ∧ wr.cell? ⟨ob, off + k * 5 + 1, none⟩ = some (.bool two) ∧ wr.cell? ⟨ob, off + k * 5 + 2, none⟩ = some (.int .i64 i) ∧ wr.cell? ⟨ob, off + k * 5 + 3, none⟩ = some (.int .i64 n) ∧ wr.cell? ⟨ob, off + k * 5 + 4, none⟩ = some (.slice oa fr.length oc) := by
  obtain ⟨o, hok⟩ : ∃ o, ops[k]? = some o := ⟨ops[k], by simp [hk]⟩
  obtain ⟨hov, ob, off, rfl, hobl, hcs⟩ := ListG.at h k o hok
  obtain ⟨kd, two, i1, n1, oa, oc, fr⟩ := o
  exact ⟨ob, off, kd, two, i1, n1, oa, oc, fr, rfl, hobl, hov, hok, (hb.cell (p := ⟨ob, off + k * 5, none⟩) hobl).trans (hcs 0 (by decide)), (hb.cell (p := ⟨ob, off + k * 5 + 1, none⟩) hobl).trans (hcs 1 (by decide)), (hb.cell (p := ⟨ob, off + k * 5 + 2, none⟩) hobl).trans (hcs 2 (by decide)), (hb.cell (p := ⟨ob, off + k * 5 + 3, none⟩) hobl).trans (hcs 3 (by decide)), (hb.cell (p := ⟨ob, off + k * 5 + 4, none⟩) hobl).trans (hcs 4 (by decide))⟩
end Go.Proofs.Ythknkfggpdhdbaa
namespace Go.Proofs.Ythknkfggpdhdbaa
open Go.RowKit

theorem wpList_append_full {P : Program} {w : World} {ops : Array Oper} {rest : List Oper} {o : Oper} {a : Act} {Q : Exit → Act → World → Prop} (hgd : o.guard = none) (s x : Operand) (t : TypeId)
    (ho : o.op = .call { callee := .builtin .append, args := #[s, x], argTypes := #[t, t] })
    (e : TypeId) (i : TypeInfo) (z : Value) (bytes : Nat) (ht : P.underlying t = some (.slice e)) (hi : P.info? e = some i) (hz : i.zero = some z)
    (hsize : i.size = 1) (hby : i.bytes = bytes) (hzs : z.cells.size = 1)
    (k : IntKind) (ao : Addr) (n : Nat) (zs : List Int) (hs : a.eval s = .slice (some ao) n n) (hn : zs.length = n) (hseg : Seg k w (some ao) zs)
    (ad : Addr) (m c : Nat) (news : List Value) (hx : a.eval x = .slice (some ad) m c) (hl : news.length = m) (hnews : ∀ j u, news[j]? = some u → w.cell? (ad.add j) = some u) (hm : 0 < m)
    (h63 : n + m ≤ maxLen) (hbytes : (n + m) * bytes ≤ 140737488355328)
    (h : ∀ v' w', w'.ownsRow w.heap.size e 1 v' (n + m) (zs.map (Value.int k) ++ news) → w.grownBy w' none → wpList P ops Q rest (a.put o.dst v') w') : wpList P ops Q (o :: rest) a w := by
  refine wpList_plain hgd fun K hK => ?_
  have holds : ∀ j u, (zs.map (Value.int k))[j]? = some u → w.cell? (ao.add j) = some u := by
    intro j u hu
    have hj : j < zs.length := by simpa using (List.getElem?_eq_some_iff.1 hu).1
    rcases hseg with h0 | ⟨b, off, e1, hc⟩
    · rw [h0] at hj; simp at hj
    · simp only [Option.some.injEq] at e1
      subst e1
      rw [Addr.add_lit, hc j hj]
      simp [List.getElem?_eq_getElem hj] at hu
      rw [← hu]
      simp [List.getD, hj]
  obtain ⟨v', w', hrun, r1, r2⟩ := run_append_arg_grows (P := P) w t o.type e i z 1 bytes ht hi hz hsize hby hzs (by decide) ao n n (zs.map (Value.int k)) (by simpa using hn) holds ad m c news (by simpa using hl) hnews (by omega) h63 hbytes
  unfold Oper.wp
  simp [execOp, ho, resolve, invoke, builtin, hs, hx, hrun, Result.andThen]
  exact hK _ _ (h v' w' r1 r2)
set_option maxHeartbeats 400000 in
set_option maxRecDepth 100000 in
theorem alike_any (a b : Option Addr) (ca cb : Nat) (l m : List Nat) (w : World) (hl : Seg .u8 w a (toI l)) (hm : Seg .u8 w b (toI m)) (hl2 : ∀ x ∈ l, x < 256) (hm2 : ∀ x ∈ m, x < 256) :
    Calls Try.prog 21 #[.slice a l.length ca, .slice b m.length cb] w fun e w' => e = .returned (.bool (decide (l = m))) ∧ w = w' := by
  have k1 := conv_any w a ca l hl hl2
  have k2 := conv_any w b cb m hm hm2
  obtain ⟨s, hs⟩ : ∃ s, s = strOf l := ⟨_, rfl⟩
  obtain ⟨t, ht⟩ : ∃ t, t = strOf m := ⟨_, rfl⟩
  rw [← hs] at k1
  rw [← ht] at k2
  have HD : Hid ((s.toList == t.toList) = decide (l = m)) := by
    show (s.toList == t.toList) = decide (l = m)
    rw [hs, ht, ByteArray.toList_eq, ByteArray.toList_eq]
    by_cases h : l = m
    · subst h; simp
    · have : (strOf l).data.toList ≠ (strOf m).data.toList := fun e => h (strOf_eq l m hl2 hm2 (WideShapes.bytes_inj e))
      rw [decide_eq_false h]
      simpa using this
  clear hs ht
  go_enter Try.func21, Try.ntmps21
  go_wp2
  go_ret
  exact ⟨congrArg (fun b => Ending.returned (.bool b)) HD.out, rfl⟩

/-- the first j places are f's -/
def ovr (f : Nat → Nat) (d : List Nat) (j : Nat) : List Nat := (List.range j).map f ++ d.drop j
theorem ovr_zero (f : Nat → Nat) (d : List Nat) : ovr f d 0 = d := by simp [ovr]
theorem ovr_len (f : Nat → Nat) (d : List Nat) (j : Nat) (h : j ≤ d.length) : (ovr f d j).length = d.length := by simp [ovr]; omega
theorem ovr_set (f : Nat → Nat) (d : List Nat) (j : Nat) (h : j < d.length) : (ovr f d j).set j (f j) = ovr f d (j + 1) := by
  unfold ovr
  rw [List.set_append_right _ _ (by simp), List.length_map, List.length_range, Nat.sub_self, List.drop_eq_getElem_cons h, List.set_cons_zero, List.range_succ, List.map_append]
  simp
theorem ovr_lo (f : Nat → Nat) (d : List Nat) (j i : Nat) (h : i < j) : (ovr f d j)[i]? = some (f i) := by
  unfold ovr
  rw [List.getElem?_append_left (by simpa using h)]
  simp [h]
theorem Try.infoBytes3 : (Try.prog.info? 5).map (fun i => (i.zero, i.size, i.bytes)) = some (some (.int .u8 0), 1, 1) := by kernel_rfl
theorem news3 (w : World) (t : TypeId) (x y z : Value) : ∀ j u, ([x, y, z] : List Value)[j]? = some u → (w.alloc (.cells #[x, y, z] t)).cell? ((⟨w.heap.size, 0, none⟩ : Addr).add j) = some u := by
  intro j u hu
  rw [Addr.add_lit, Nat.zero_add, World.cell?_alloc_at _ _ _ _ rfl]
  simpa using hu
set_option maxRecDepth 100000 in
set_option maxHeartbeats 800000 in
theorem wide_any (a : Option Addr) (c : Nat) (l : List Nat) (w : World) (hs : Seg .u8 w a (toI l)) (hl : l.length ≤ 140737488355000) :
    Calls Try.prog 62 #[.slice a l.length c] w fun e w' => ∃ g cp, e = .returned (.slice (some ⟨g, 0, none⟩) (l.length + 3) cp) ∧ w'.ownsRow w.heap.size 5 1 (.slice (some ⟨g, 0, none⟩) (l.length + 3) cp) (l.length + 3) ((toI (l ++ [91, 92, 93])).map (Value.int .u8)) ∧ Below w.heap.size w w' := by
  obtain ⟨i0, hi, hz0, hz1, hz2⟩ := info_parts Try.infoByte
  obtain ⟨n, hn⟩ : ∃ n, n = l.length := ⟨_, rfl⟩
  have HN : Hid (l.length = n) := hn.symm
  rw [← hn] at hl ⊢
  clear hn
  go_enter Try.func62, Try.ntmps62
  go_wp2_with (first | (at_builtin; refine append_split_seg rfl (.tmp 4) (.tmp 5) 43 rfl w.heap.size 5 i0 (.int .u8 0) 1 Try.underlying43 hi hz0 hz1 hz2 rfl (.slice none 0 0) 0 [] rfl (World.ownsRow_nil _ _ _ _) .u8 a n c (toI l) rfl (by rw [toI_len]; exact HN.out) hs (by unfold maxLen; omega) (by omega) (Nat.le_refl _) ?_))
  intro v1 w1 ho1 hq1 hg1
  have hb1 : Below w.heap.size w w1 := (Below.refl _ _).grown hg1 (Nat.le_refl _) (by intro k hk; simp [Value.ownBlock] at hk)
  obtain ⟨a1, c1, rfl⟩ := owns_shape ho1
  try simp only [Nat.zero_add, List.nil_append] at ho1
  have ho2 : (w1.alloc (.cells #[.int .u8 91, .int .u8 92, .int .u8 93] 5)).ownsRow w.heap.size 5 1 (.slice a1 n c1) n ((toI l).map (Value.int .u8)) := by
    have := ho1.alloc (.cells #[.int .u8 91, .int .u8 92, .int .u8 93] 5)
    simpa using this
  have hb2 : Below w.heap.size w (w1.alloc (.cells #[.int .u8 91, .int .u8 92, .int .u8 93] 5)) := hb1.alloc hb1.size _
  clear hq1 hg1 ho1 hs
  go_wp2_with (first | (at_builtin; refine append_split rfl (.tmp 7) (.tmp 8) 43 rfl w.heap.size 5 i0 (.int .u8 0) 1 Try.underlying43 hi hz0 hz1 hz2 rfl (.slice a1 n c1) n ((toI l).map (Value.int .u8)) rfl ho2 ⟨w1.heap.size, 0, none⟩ 3 3 [.int .u8 91, .int .u8 92, .int .u8 93] rfl rfl (news3 _ _ _ _ _) (by intro u hu; simp at hu; rcases hu with rfl | rfl | rfl <;> rfl) (by unfold maxLen; omega) (by omega) hb2.size ?_))
  intro v3 w3 ho3 hg3
  have hb3 : Below w.heap.size w w3 := by
    rcases hg3 with ⟨g1, _⟩ | ⟨g1, _, _⟩
    · exact hb2.grown g1 hb2.size (by intro k hk; cases hk)
    · exact hb2.grown g1 hb2.size (fun k hk => (ho2.lt k hk).1)
  have ho4 : w3.ownsRow w.heap.size 5 1 v3 (n + 3) ((toI (l ++ [91, 92, 93])).map (Value.int .u8)) := by
    have e : (toI (l ++ [91, 92, 93])).map (Value.int .u8) = (toI l).map (Value.int .u8) ++ [.int .u8 91, .int .u8 92, .int .u8 93] := by simp [toI]
    rw [e]; exact ho3
  clear hg3 ho3 hb2 ho2 hb1
  rcases ho4.2 with ⟨_, h0⟩ | ⟨g, cp, cur, rfl, _⟩
  · omega
  go_wp2
  go_ret
  exact ⟨g, cp, rfl, ho4, hb3⟩
end Go.Proofs.Ythknkfggpdhdbaa
