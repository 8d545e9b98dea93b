/-
  Layer 4: an error's place is no further on than the text goes.
-/
import Derived.Test.YtfeabifjnihooaaDoorAdY6
namespace Go.Proofs.YtfeabifjnihooaaDoor
open Go.RowKit

theorem hrE_pl {s : ByteArray} {p : Nat} (h : p ≤ s.size) : (hrE s p).2 ≤ s.size := by unfold hrE; split <;> simp; omega
theorem scP_in {s : ByteArray} {f : Nat → Bool} {p : Nat} (h : p ≤ s.size) : scP s f p ≤ s.size := scn_le s f _ p h
theorem dtd_pl {s : ByteArray} {e : Nat × Nat} : ∀ m p l, p ≤ s.size → dtd s m p l = .inr e → e.2 ≤ s.size
  | 0, p, l, hp, h => by
    unfold dtd at h
    split at h
    · injection h with h; rw [← h]; exact hp
    · cases h
  | m + 1, p, l, hp, h => by
    have hq := scP_in (f := dgB) hp
    unfold dtd at h
    split at h
    · injection h with h; rw [← h]; exact hrE_pl hp
    · split at h
      · injection h with h; rw [← h]; exact hp
      · split at h
        · exact dtd_pl 0 _ _ hq h
        · split at h
          · injection h with h; rw [← h]; exact hrE_pl hq
          · rename_i h4
            refine dtd_pl m _ _ ?_ h
            simp at h4
            omega
/-- an error's place lies in the text -/
def SxPl (s : ByteArray) (X : SX) : Prop := X.er ≠ 0 → X.pl ≤ s.size
theorem SxPl.fail {s : ByteArray} {X : SX} (h : SxPl s X) (e a : Nat) (ha : a ≤ s.size) : SxPl s (X.fail e a) := by
  unfold SX.fail
  split
  · exact fun _ => ha
  · exact h
theorem grp_pl {s : ByteArray} {X : SX} (ho : SxOk s X) (h : SxPl s X) : SxPl s (grp s X).1 := by
  unfold grp grpq
  obtain ⟨q, hq⟩ : ∃ q, q = scP s hxB X.p := ⟨_, rfl⟩
  rw [← hq]
  cases c1 : q == X.p with
  | true => exact h.fail _ _ (hrE_pl ho.p)
  | false =>
    cases c2 : decide (rmN X < X.g.length + (if tlB s X q then 2 else 1)) with
    | true => exact h.fail _ _ ho.p
    | false =>
      cases c3 : tlB s X q with
      | true =>
        cases hd : dtd s 4 X.p [] with
        | inr e => exact h.fail _ _ (dtd_pl 4 _ _ ho.p hd)
        | inl l => exact h
      | false =>
        cases c4 : decide (4 < q - X.p) with
        | true => exact h.fail _ _ ho.p
        | false => exact h
theorem btw_pl {s : ByteArray} {X : SX} (ho : SxOk s X) (h : SxPl s X) : SxPl s (btw s X).1 := by
  unfold btw
  split
  · split
    · exact h.fail _ _ ho.p
    · exact h
  · split
    · exact h
    · exact h.fail _ _ ho.p
theorem rnd_pl {s : ByteArray} {X : SX} (ho : SxOk s X) (h : SxPl s X) : SxPl s (rnd s X).1 := by
  unfold rnd
  split
  · exact btw_pl (grp_ok' ho) (grp_pl ho h)
  · exact grp_pl ho h
theorem slp_pl {s : ByteArray} : ∀ (f : Nat) (Z : SX × Bool), SxOk s Z.1 → SxPl s Z.1 → SxPl s (slp s f Z)
  | 0, _, _, h => h
  | f + 1, Z, ho, h => by
    unfold slp
    split
    · exact slp_pl f _ (rnd_ok' ho) (rnd_pl ho h)
    · exact h
theorem sx0_pl (s : ByteArray) : SxPl s (sx0 s).1 := by
  unfold sx0 SxPl
  split
  · intro h; exact absurd rfl h
  · intro h; exact absurd rfl h
theorem pIP_pl {s : ByteArray} {e : Nat × Nat} (h : pIP s = .inr e) : e.2 ≤ s.size := by
  unfold pIP at h
  split at h
  · rename_i h1
    injection h with h
    rw [← h]
    show 45 ≤ s.size
    omega
  · split at h
    · split at h
      · rename_i hq
        injection h with h
        rw [← h]
        exact slp_pl _ _ (sx0_ok s) (sx0_pl s) hq
      · split at h
        · injection h with h
          rw [← h]
          exact Nat.le_refl _
        · cases h
    · split at h
      · rename_i e' hd
        injection h with h
        rw [← h]
        exact dtd_pl 4 0 [] (Nat.zero_le _) hd
      · cases h
theorem pPF_pl {s : ByteArray} {e : Nat × Nat} (h : pPF s = .inr e) : e.2 ≤ s.size := by
  unfold pPF at h
  split at h
  · rename_i h1
    injection h with h
    rw [← h]
    show 49 ≤ s.size
    omega
  · split at h
    · injection h with h; rw [← h]; exact Nat.le_refl _
    · rename_i h1 h2
      have hk : (slN47 s).toNat < s.size := idx_lt s.data.toList 47 (by unfold slN47 at h2; omega)
      split at h
      · rename_i e' hp
        injection h with h
        rw [← h]
        have h3 := pIP_pl hp
        rw [ByteArray.size_extract] at h3
        omega
      · rename_i V x hp
        unfold pPF2 at h
        have hq := scP_in (f := dgB) (show (slN47 s).toNat + 1 ≤ s.size by omega)
        split at h
        · injection h with h; rw [← h]; show (slN47 s).toNat + 1 ≤ s.size; omega
        · split at h
          · injection h with h; rw [← h]; show (slN47 s).toNat + 1 ≤ s.size; omega
          · split at h
            · injection h with h; rw [← h]; exact hq
            · split at h
              · injection h with h; rw [← h]; exact Nat.zero_le _
              · cases h
theorem pPF_er {s : ByteArray} {e : Nat × Nat} (h : pPF s = .inr e) : e.1 ≠ 0 := by
  unfold pPF at h
  split at h
  · injection h with h; rw [← h]; simp
  · split at h
    · injection h with h; rw [← h]; simp
    · split at h
      · rename_i e' hp
        injection h with h
        rw [← h]
        exact pIP_er hp
      · unfold pPF2 at h
        split at h
        · injection h with h; rw [← h]; exact (hrE_ne s _).1
        · split at h
          · injection h with h; rw [← h]; simp
          · split at h
            · injection h with h; rw [← h]; simp
            · split at h
              · rename_i hv
                injection h with h; rw [← h]; exact hv
              · cases h
end Go.Proofs.YtfeabifjnihooaaDoor
