/-
  Layer 4: a prefix read, in numbers; what is read as an address has bytes.
-/
import Derived.Test.YtfeabifjnihooaaDoorAdX9
namespace Go.Proofs.YtfeabifjnihooaaDoor
open Go.RowKit

theorem slp_ok {s : ByteArray} : ∀ (f : Nat) (Z : SX × Bool), SxOk s Z.1 → SxOk s (slp s f Z)
  | 0, _, h => h
  | f + 1, Z, h => by
    unfold slp
    split
    · exact slp_ok f _ (rnd_ok' h)
    · exact h
theorem sxL_ok (s : ByteArray) : SxOk s (sxL s) := slp_ok _ _ (sx0_ok s)
theorem fil_lt {X : SX} (h : ∀ n ∈ X.g, n < 65536) : ∀ k i, fil X k i < 256
  | 0, _ => by show 0 < 256; decide
  | k + 1, i => by
    rw [fil_step]
    split
    · exact gb_lt h _
    · exact fil_lt h k i
theorem pIP_lt {s : ByteArray} {V : Int} {x : Nat → Nat} (h : pIP s = .inl (V, x)) : ∀ i, x i < 256 := by
  unfold pIP at h
  split at h
  · cases h
  · split at h
    · split at h
      · cases h
      · split at h
        · cases h
        · injection h with h
          injection h with h1 h2
          intro i
          rw [← h2]
          exact fil_lt (sxL_ok s).b _ i
    · split at h
      · cases h
      · rename_i l hd
        injection h with h
        injection h with h1 h2
        intro i
        rw [← h2]
        exact dtd_at hd i
theorem pIP_vld {s : ByteArray} {V : Int} {x : Nat → Nat} (h : pIP s = .inl (V, x)) : V = 6 ∨ (V = 4 ∧ ∀ i, 4 ≤ i → x i = 0) := by
  unfold pIP at h
  split at h
  · cases h
  · split at h
    · split at h
      · cases h
      · split at h
        · cases h
        · injection h with h
          injection h with h1 h2
          exact .inl h1.symm
    · split at h
      · cases h
      · rename_i l hd
        injection h with h
        injection h with h1 h2
        refine .inr ⟨h1.symm, fun i hi => ?_⟩
        obtain ⟨t, ht, ht4, _⟩ := dtd_ok 4 0 [] hd
        rw [← h2]
        show l.getD i 0 = 0
        rw [ht, List.nil_append, List.getD_eq_getElem?_getD, List.getElem?_eq_none (by omega)]
        rfl
/-- where the stroke stands, -1 where there is none -/
def slN47 (s : ByteArray) : Int := Lib.indexByte s.data.toList 47
/-- behind the stroke at k, the address read -/
def pPF2 (s : ByteArray) (k : Nat) (V : Int) (x : Nat → Nat) : Sum PV (Nat × Nat) :=
  if scP s dgB (k + 1) = k + 1 then .inr ((hrE s (k + 1)).1, k + 1) else
  if dcm s (k + 1) (scP s dgB (k + 1)) (bitV V) < 0 then .inr (45, k + 1) else
  if scP s dgB (k + 1) ≠ s.size then .inr (41, scP s dgB (k + 1)) else
  if vpE ⟨V, x, dcm s (k + 1) (scP s dgB (k + 1)) (bitV V)⟩ ≠ 0 then .inr (vpE ⟨V, x, dcm s (k + 1) (scP s dgB (k + 1)) (bitV V)⟩, 0) else
  .inl ⟨V, x, dcm s (k + 1) (scP s dgB (k + 1)) (bitV V)⟩
/-- ParsePrefix in numbers -/
def pPF (s : ByteArray) : Sum PV (Nat × Nat) :=
  if 49 < s.size then .inr (2, 49) else
  if slN47 s < 0 then .inr (42, s.size) else
  match pIP (s.extract 0 (slN47 s).toNat) with
  | .inr e => .inr e
  | .inl (V, x) => pPF2 s (slN47 s).toNat V x
/-- ParsePrefix's answer -/
def pxO (r : Sum PV (Nat × Nat)) : Value := match r with
  | .inl p => .tuple #[.agg (pfC p), .int .i64 0, .int .i64 0]
  | .inr (e, p) => .tuple #[.agg (pfC pz), .int .i64 (e : Nat), .int .i64 (p : Nat)]
end Go.Proofs.YtfeabifjnihooaaDoor
