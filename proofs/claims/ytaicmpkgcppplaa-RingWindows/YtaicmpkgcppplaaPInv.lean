/-
  What holds of every port: who stands where.
-/
import Derived.Test.YtaicmpkgcppplaaPort12
namespace Go.Proofs.Ytaicmpkgcppplaa

theorem nodup_le : ∀ (n : Nat) (l : List Nat), l.Nodup → (∀ x ∈ l, x < n) → l.length ≤ n
  | 0, l, _, h => by
    cases l with
    | nil => simp
    | cons a t => exact absurd (h a (by simp)) (by omega)
  | n + 1, l, hd, h => by
    by_cases hm : n ∈ l
    · have h1 := nodup_le n (l.erase n) (hd.erase n) (fun x hx => by
        have h2 := h x (List.mem_of_mem_erase hx)
        have h3 : x ≠ n := fun e => by subst e; exact hd.not_mem_erase hx
        omega)
      rw [List.length_erase_of_mem hm] at h1
      omega
    · have h1 := nodup_le n l hd (fun x hx => by
        have h2 := h x hx
        have h3 : x ≠ n := fun e => hm (e ▸ hx)
        omega)
      omega
structure PInv (s : PS) : Prop where
  nd : (s.fr ++ (s.rx ++ s.tx)).Nodup
  lt : ∀ x ∈ s.fr ++ (s.rx ++ s.tx), x < s.pool
  fl : s.filled ≤ s.rx.length
  p1 : ∀ i, i < s.pool → (s.pl i = 1 ↔ i ∈ s.fr)
  p2 : ∀ i, i < s.pool → (s.pl i = 2 ↔ i ∈ s.rx.drop s.filled)
  p3 : ∀ i, i < s.pool → (s.pl i = 3 ↔ i ∈ s.rx.take s.filled)
  p5 : ∀ i, i < s.pool → (s.pl i = 5 ↔ i ∈ s.tx)
  pr : ∀ i, i < s.pool → 1 ≤ s.pl i ∧ s.pl i ≤ 5
  ln : ∀ i, i < s.pool → s.ln i ≤ s.size
theorem PInv.room {s : PS} (h : PInv s) {k : Nat} (hk : k < s.pool) (hn : s.pl k ≠ 1) : s.fr.length < s.pool := by
  have h1 : k ∉ s.fr := fun e => hn ((h.p1 k hk).2 e)
  have hnd : s.fr.Nodup := (List.nodup_append.1 h.nd).1
  have := nodup_le s.pool (k :: s.fr) (List.nodup_cons.2 ⟨h1, hnd⟩) (fun x hx => by
    rcases List.mem_cons.1 hx with rfl | hx
    · exact hk
    · exact h.lt x (List.mem_append_left _ hx))
  simp at this
  omega
theorem PInv.frlt {s : PS} (h : PInv s) : ∀ x ∈ s.fr, x < s.pool := fun x hx => h.lt x (List.mem_append_left _ hx)
theorem PInv.rxlt {s : PS} (h : PInv s) : ∀ x ∈ s.rx, x < s.pool := fun x hx => h.lt x (List.mem_append_right _ (List.mem_append_left _ hx))
theorem PInv.txlt {s : PS} (h : PInv s) : ∀ x ∈ s.tx, x < s.pool := fun x hx => h.lt x (List.mem_append_right _ (List.mem_append_right _ hx))
end Go.Proofs.Ytaicmpkgcppplaa
