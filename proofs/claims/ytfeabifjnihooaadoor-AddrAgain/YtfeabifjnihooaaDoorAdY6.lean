/-
  Layer 4: what is read is valid.
-/
import Derived.Test.YtfeabifjnihooaaDoorAdY5
namespace Go.Proofs.YtfeabifjnihooaaDoor
open Go.RowKit

theorem pIP_ok {s : ByteArray} {V : Int} {x : Nat → Nat} (h : pIP s = .inl (V, x)) : vld V x = true := by
  rcases pIP_vld h with rfl | ⟨rfl, h4⟩
  · rfl
  · unfold vld
    rw [Bool.or_eq_true]
    refine .inr ?_
    rw [beq_self_eq_true, Bool.true_and, same16_iff]
    intro i _
    unfold hdA
    split
    · rfl
    · rw [h4 i (by omega), Nat.zero_and]
theorem pPF_ok {s : ByteArray} {p : PV} (h : pPF s = .inl p) : vpE p = 0 ∧ ∀ i, p.x i < 256 := by
  unfold pPF at h
  split at h
  · cases h
  · split at h
    · cases h
    · split at h
      · cases h
      · rename_i V x hp
        unfold pPF2 at h
        split at h
        · cases h
        · split at h
          · cases h
          · split at h
            · cases h
            · split at h
              · cases h
              · rename_i hv
                injection h with h
                rw [← h]
                exact ⟨by simpa using hv, pIP_lt hp⟩
theorem mcN_lt {s : ByteArray} : ∀ (k i p : Nat) (m : Nat → Nat) (q : Nat) (m' : Nat → Nat), (∀ j, m j < 256) → mcN s k i p m = .inl (q, m') → ∀ j, m' j < 256
  | 0, i, p, m, q, m', hm, h => by
    unfold mcN at h
    injection h with h
    injection h with _ h2
    rw [← h2]
    exact hm
  | k + 1, i, p, m, q, m', hm, h => by
    unfold mcN at h
    split at h
    · cases h
    · refine mcN_lt k i _ _ q m' (fun j => ?_) h
      unfold up1
      split
      · exact Nat.mod_lt _ (by omega)
      · exact hm j
theorem mcB_lt {s : ByteArray} : ∀ (n i p : Nat) (m m' : Nat → Nat), (∀ j, m j < 256) → mcB s n i p m = .inl m' → ∀ j, m' j < 256
  | 0, i, p, m, m', hm, h => by
    unfold mcB at h
    injection h with h
    rw [← h]
    exact hm
  | n + 1, i, p, m, m', hm, h => by
    unfold mcB at h
    split at h
    · cases h
    · split at h
      · cases h
      · rename_i q m2 hN
        exact mcB_lt n _ _ _ m' (mcN_lt 2 i _ m q m2 hm hN) h
theorem pMC_lt {s : ByteArray} {m : Nat → Nat} (h : pMC s = .inl m) : ∀ j, m j < 256 := by
  unfold pMC at h
  split at h
  · cases h
  · exact mcB_lt 6 0 0 mz m (fun _ => by show 0 < 256; decide) h
end Go.Proofs.YtfeabifjnihooaaDoor
