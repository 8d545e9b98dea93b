/-
  Layer 4: a link address read, in numbers; a printed one is read as it was.
-/
import Derived.Test.YtfeabifjnihooaaDoorAdY3
namespace Go.Proofs.YtfeabifjnihooaaDoor
open Go.RowKit

/-- k digits of the byte i -/
def mcN (s : ByteArray) : Nat → Nat → Nat → (Nat → Nat) → Sum (Nat × (Nat → Nat)) (Nat × Nat)
  | 0, _, p, m => .inl (p, m)
  | k + 1, i, p, m => if s.size ≤ p ∨ 16 ≤ dgV (sB s p) then .inr (hrE s p) else mcN s k i (p + 1) (up1 m i ((16 * m i + dgV (sB s p)) % 256))
/-- n bytes from the byte i on -/
def mcB (s : ByteArray) : Nat → Nat → Nat → (Nat → Nat) → Sum (Nat → Nat) (Nat × Nat)
  | 0, _, _, m => .inl m
  | n + 1, i, p, m => if 0 < i ∧ ¬ (p < s.size ∧ sB s p = 58) then .inr (hrE s p) else
    match mcN s 2 i (if 0 < i then p + 1 else p) m with
    | .inr e => .inr e
    | .inl (q, m') => mcB s n (i + 1) q m'
/-- ParseMac in numbers -/
def pMC (s : ByteArray) : Sum (Nat → Nat) (Nat × Nat) := if 17 < s.size then .inr (2, 17) else mcB s 6 0 0 mz
/-- ParseMac's answer -/
def mcO (r : Sum (Nat → Nat) (Nat × Nat)) : Value := match r with
  | .inl m => .tuple #[.agg (macC m), .int .i64 0, .int .i64 0]
  | .inr (e, p) => .tuple #[.agg (macC mz), .int .i64 (e : Nat), .int .i64 (p : Nat)]
theorem mcB_go {s : ByteArray} {n i p q : Nat} {m m' : Nat → Nat} (hc : ¬ (0 < i ∧ ¬ (p < s.size ∧ sB s p = 58))) (hN : mcN s 2 i (if 0 < i then p + 1 else p) m = .inl (q, m')) : mcB s (n + 1) i p m = mcB s n (i + 1) q m' := by
  rw [mcB, if_neg hc, hN]
theorem mcB_no {s : ByteArray} {n i p : Nat} {m : Nat → Nat} (hc : 0 < i ∧ ¬ (p < s.size ∧ sB s p = 58)) : mcB s (n + 1) i p m = .inr (hrE s p) := by
  rw [mcB, if_pos hc]
theorem mcB_er {s : ByteArray} {n i p : Nat} {m : Nat → Nat} {e : Nat × Nat} (hc : ¬ (0 < i ∧ ¬ (p < s.size ∧ sB s p = 58))) (hN : mcN s 2 i (if 0 < i then p + 1 else p) m = .inr e) : mcB s (n + 1) i p m = .inr e := by
  rw [mcB, if_neg hc, hN]
theorem dgV_hd {k : Nat} (h : k < 16) : dgV (hd k) = k := by
  have : ∀ i : Fin 16, dgV (hd i.val) = i.val := by decide +kernel
  exact this ⟨k, h⟩
theorem sB_txB {L : List Nat} (h : ∀ c ∈ L, c < 256) {j : Nat} (hj : j < L.length) : sB (txB L) j = L.getD j 0 := by
  unfold sB
  rw [txB_data, List.getD_eq_getElem?_getD, List.getD_eq_getElem?_getD, List.getElem?_map, List.getElem?_eq_getElem hj]
  show (UInt8.ofNat L[j]).toNat = L[j]
  exact UInt8.toNat_ofNat_of_lt (by simpa using h _ (List.getElem_mem hj))
section
variable {m : Nat → Nat} (hm : ∀ i, i < 6 → m i < 256)
include hm
theorem prM_at {j : Nat} (hj : j < 17) : sB (txB (prM m 6)) j = (prM m 6).getD j 0 := sB_txB (prM_lt hm 6 (Nat.le_refl _)) (by rw [prM_len]; omega)
theorem prM_a {i : Nat} (hi : i < 6) : sB (txB (prM m 6)) (3 * i) = hd (m i / 16) := by
  rw [prM_at hm (by omega), prM_list]
  rcases (show i = 0 ∨ i = 1 ∨ i = 2 ∨ i = 3 ∨ i = 4 ∨ i = 5 by omega) with rfl | rfl | rfl | rfl | rfl | rfl <;> rfl
theorem prM_b {i : Nat} (hi : i < 6) : sB (txB (prM m 6)) (3 * i + 1) = hd (m i % 16) := by
  rw [prM_at hm (by omega), prM_list]
  rcases (show i = 0 ∨ i = 1 ∨ i = 2 ∨ i = 3 ∨ i = 4 ∨ i = 5 by omega) with rfl | rfl | rfl | rfl | rfl | rfl <;> rfl
theorem prM_c {i : Nat} (hi : i < 6) (h0 : 0 < i) : sB (txB (prM m 6)) (3 * i - 1) = 58 := by
  rw [prM_at hm (by omega), prM_list]
  rcases (show i = 1 ∨ i = 2 ∨ i = 3 ∨ i = 4 ∨ i = 5 by omega) with rfl | rfl | rfl | rfl | rfl <;> rfl
omit hm in
theorem prM_size (m : Nat → Nat) : (txB (prM m 6)).size = 17 := by rw [txB_size, prM_len]
theorem mcB_step {i : Nat} (hi : i < 6) (m0 : Nat → Nat) (h0 : m0 i = 0) (n : Nat) : mcB (txB (prM m 6)) (n + 1) i (3 * i - 1) m0 = mcB (txB (prM m 6)) n (i + 1) (3 * i + 2) (up1 (up1 m0 i (m i / 16)) i (m i)) := by
  have hs := prM_size m
  have h256 := hm i hi
  have ha := prM_a hm hi
  have hb := prM_b hm hi
  have da := dgV_hd (show m i / 16 < 16 by omega)
  have db := dgV_hd (show m i % 16 < 16 by omega)
  have hc : ¬ (0 < i ∧ ¬ (3 * i - 1 < (txB (prM m 6)).size ∧ sB (txB (prM m 6)) (3 * i - 1) = 58)) := by
    rintro ⟨h1, h2⟩
    exact h2 ⟨by omega, prM_c hm hi h1⟩
  have hp : (if 0 < i then 3 * i - 1 + 1 else 3 * i - 1) = 3 * i := by split <;> omega
  have hN : mcN (txB (prM m 6)) 2 i (3 * i) m0 = .inl (3 * i + 2, up1 (up1 m0 i (m i / 16)) i (m i)) := by
    show (if (txB (prM m 6)).size ≤ 3 * i ∨ 16 ≤ dgV (sB (txB (prM m 6)) (3 * i)) then _ else mcN _ 1 _ _ _) = _
    rw [if_neg (by rw [ha, da]; omega), ha, da, h0]
    show (if (txB (prM m 6)).size ≤ 3 * i + 1 ∨ 16 ≤ dgV (sB (txB (prM m 6)) (3 * i + 1)) then _ else mcN _ 0 _ _ _) = _
    rw [if_neg (by rw [hb, db]; omega), hb, db]
    show Sum.inl (3 * i + 1 + 1, up1 (up1 m0 i ((16 * 0 + m i / 16) % 256)) i ((16 * up1 m0 i ((16 * 0 + m i / 16) % 256) i + m i % 16) % 256)) = _
    have e1 : (16 * 0 + m i / 16) % 256 = m i / 16 := by omega
    have e2 : up1 m0 i (m i / 16) i = m i / 16 := by unfold up1; rw [if_pos rfl]
    rw [e1, e2, show (16 * (m i / 16) + m i % 16) % 256 = m i by omega]
  exact mcB_go hc (by rw [hp]; exact hN)
theorem mac_back : ∃ y, pMC (txB (prM m 6)) = .inl y ∧ ∀ i, i < 6 → y i = m i := by
  have u : ∀ (f : Nat → Nat) (a b c k : Nat), k ≠ a → up1 (up1 f a b) a c k = f k := fun f a b c k h => by unfold up1; rw [if_neg h, if_neg h]
  have v : ∀ (f : Nat → Nat) (a b c : Nat), up1 (up1 f a b) a c a = c := fun f a b c => by unfold up1; rw [if_pos rfl]
  unfold pMC
  rw [if_neg (by rw [prM_size m]; omega)]
  rw [show (0 : Nat) = 3 * 0 - 1 from rfl, mcB_step hm (i := 0) (by omega) mz rfl 5]
  rw [show 3 * 0 + 2 = 3 * 1 - 1 from rfl, show 0 + 1 = 1 from rfl, mcB_step hm (i := 1) (by omega) _ (by rw [u _ _ _ _ _ (by omega)]; rfl) 4]
  rw [show 3 * 1 + 2 = 3 * 2 - 1 from rfl, show 1 + 1 = 2 from rfl, mcB_step hm (i := 2) (by omega) _ (by rw [u _ _ _ _ _ (by omega), u _ _ _ _ _ (by omega)]; rfl) 3]
  rw [show 3 * 2 + 2 = 3 * 3 - 1 from rfl, show 2 + 1 = 3 from rfl, mcB_step hm (i := 3) (by omega) _ (by rw [u _ _ _ _ _ (by omega), u _ _ _ _ _ (by omega), u _ _ _ _ _ (by omega)]; rfl) 2]
  rw [show 3 * 3 + 2 = 3 * 4 - 1 from rfl, show 3 + 1 = 4 from rfl, mcB_step hm (i := 4) (by omega) _ (by rw [u _ _ _ _ _ (by omega), u _ _ _ _ _ (by omega), u _ _ _ _ _ (by omega), u _ _ _ _ _ (by omega)]; rfl) 1]
  rw [show 3 * 4 + 2 = 3 * 5 - 1 from rfl, show 4 + 1 = 5 from rfl, mcB_step hm (i := 5) (by omega) _ (by rw [u _ _ _ _ _ (by omega), u _ _ _ _ _ (by omega), u _ _ _ _ _ (by omega), u _ _ _ _ _ (by omega), u _ _ _ _ _ (by omega)]; rfl) 0]
  refine ⟨_, rfl, fun i hi => ?_⟩
  rcases (show i = 0 ∨ i = 1 ∨ i = 2 ∨ i = 3 ∨ i = 4 ∨ i = 5 by omega) with rfl | rfl | rfl | rfl | rfl | rfl <;> simp [up1]
end
end Go.Proofs.YtfeabifjnihooaaDoor
