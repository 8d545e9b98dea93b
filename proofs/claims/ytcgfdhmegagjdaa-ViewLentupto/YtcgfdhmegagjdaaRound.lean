/-
  Fields and Pack, there and back.
-/
import Derived.Test.YtcgfdhmegagjdaaOwn
namespace Go.Proofs.Ytcgfdhmegagjdaa
open Go.RowKit

theorem fit_fields (r N : Nat) (ws : List Nat) (hr : M.tot ws ≤ r) : fitI ws (toI (M.fieldsN r N ws)) ws.length := by
  intro j hj
  have hl : j < (M.fieldsN r N ws).length := by rw [M.length_fieldsN]; exact hj
  have := M.fieldsN_fit r N ws j hj hr
  rw [toI_getD]
  have e1 : (M.fieldsN r N ws).getD j 0 = (M.fieldsN r N ws)[j] := by simp [List.getD, hl]
  have e2 : ws.getD j 0 = ws[j] := by simp [List.getD, hj]
  rw [e1, e2]
  have ep : ((2 : Int) ^ ws[j]) = ((2 ^ ws[j] : Nat) : Int) := by simp
  rw [ep]
  omega
theorem vOf_full (ws fs : List Nat) (h : fs.length = ws.length) : vOf ws (toI fs) ws.length = M.packN 0 ws fs := by
  unfold vOf
  have e : (toI fs).map Int.toNat = fs := by
    unfold toI
    rw [List.map_map]
    conv => rhs; rw [← List.map_id fs]
    apply List.map_congr_left
    intro x _
    simp
  rw [e, List.take_length, ← h, List.take_length]

/-- Pack of what Fields has read makes the bytes that it read. -/
theorem pack_fields (ad ad2 : Option Addr) (cap cap2 n : Nat) (ws cs : List Nat) (w : World) (hw : Seg .i64 w ad (toI ws)) (hv : Seg .i64 w ad2 (toI (M.fieldsN (M.tot ws) (M.numB cs) ws)))
    (h64 : ws.length ≤ 64) (hws : ∀ x ∈ ws, 1 ≤ x ∧ x ≤ 32) (htot : M.tot ws = 8 * n) (hcl : cs.length = n) (h256 : ∀ x ∈ cs, x < 256) :
    Calls Try.prog 12 #[.slice ad ws.length cap, .slice ad2 ws.length cap2] w fun e w' => ∃ a c, e = .returned (.tuple #[.slice a n c, .int .i64 0]) ∧ Seg .u8 w' a (toI cs) ∧ Below w.heap.size w w' ∧ n ≤ c ∧ c ≤ maxLen := by
  refine (pack_any ad ad2 cap cap2 n ws _ w hw hv (by rw [toI_len, M.length_fieldsN]) h64 hws htot).mono ?_
  rintro e w' ⟨v, er, rfl, hb, h | h⟩
  · obtain ⟨_, rfl, hown⟩ := h
    rw [vOf_full ws _ (M.length_fieldsN _ _ _), M.packN_mod 0 _ ws _ rfl] at hown
    have hlt := M.numB_lt cs h256
    have e2 : (2 : Nat) ^ M.tot ws = 256 ^ cs.length := by rw [htot, hcl, Nat.pow_mul]
    rw [Nat.zero_mul, Nat.zero_add, e2, Nat.mod_eq_of_lt hlt, bytesV, ← hcl, M.bytesN_numB cs h256, toI_map] at hown
    obtain ⟨a, c, rfl, hs, _, h1, h2⟩ := owns_seg hown
    subst hcl
    exact ⟨a, c, rfl, hs, hb, h1, h2⟩
  · exact absurd (fit_fields _ _ ws (Nat.le_refl _)) h.1

theorem pack_unfit (ad ad2 : Option Addr) (cap cap2 n : Nat) (ws : List Nat) (vs : List Int) (w : World) (hw : Seg .i64 w ad (toI ws)) (hv : Seg .i64 w ad2 vs)
    (hvl : vs.length = ws.length) (h64 : ws.length ≤ 64) (hws : ∀ x ∈ ws, 1 ≤ x ∧ x ≤ 32) (htot : M.tot ws = 8 * n) (hnf : ¬ fitI ws vs ws.length) :
    Calls Try.prog 12 #[.slice ad ws.length cap, .slice ad2 ws.length cap2] w fun e w' => e = .returned (.tuple #[.slice none 0 0, .int .i64 12]) ∧ Below w.heap.size w w' := by
  refine (pack_any ad ad2 cap cap2 n ws vs w hw hv hvl h64 hws htot).mono ?_
  rintro e w' ⟨v, er, rfl, hb, h | h⟩
  · exact absurd h.1 hnf
  · obtain ⟨_, rfl, rfl⟩ := h
    exact ⟨rfl, hb⟩
/-- values that fit are natural numbers -/
theorem fitI_nat (ws : List Nat) (vs : List Int) (hvl : vs.length = ws.length) (hf : fitI ws vs ws.length) : ∃ vn : List Nat, vs = toI vn ∧ vn.length = ws.length ∧ M.Fit ws vn := by
  have h0 : ∀ x ∈ vs, 0 ≤ x := by
    intro x hx
    obtain ⟨j, hj, rfl⟩ := List.getElem_of_mem hx
    have := (hf j (by omega)).1
    simpa [List.getD, hj] using this
  have e : vs = toI (vs.map Int.toNat) := by
    unfold toI
    rw [List.map_map]
    conv => lhs; rw [← List.map_id vs]
    apply List.map_congr_left
    intro x hx
    have := h0 x hx
    simp; omega
  refine ⟨vs.map Int.toNat, e, by simpa using hvl, ?_⟩
  have key : ∀ (ws : List Nat) (vs : List Int), vs.length = ws.length → fitI ws vs ws.length → M.Fit ws (vs.map Int.toNat) := by
    intro ws
    induction ws with
    | nil => intro vs h _; rw [List.eq_nil_of_length_eq_zero h]; trivial
    | cons w ws ih =>
      intro vs h hf
      cases vs with
      | nil => simp at h
      | cons v vs =>
        refine ⟨?_, ih vs (by simpa using h) ?_⟩
        · have := hf 0 (by simp)
          simp at this
          have ep : ((2 : Int) ^ w) = ((2 ^ w : Nat) : Int) := by simp
          rw [ep] at this
          omega
        · intro j hj
          have := hf (j + 1) (by simp; omega)
          simpa using this
  exact key ws vs hvl hf
/-- Pack of values that fit: the bytes of their number. -/
theorem pack_fit (ad ad2 : Option Addr) (cap cap2 n : Nat) (ws vn : List Nat) (w : World) (hw : Seg .i64 w ad (toI ws)) (hv : Seg .i64 w ad2 (toI vn))
    (hvl : vn.length = ws.length) (h64 : ws.length ≤ 64) (hws : ∀ x ∈ ws, 1 ≤ x ∧ x ≤ 32) (htot : M.tot ws = 8 * n) (hf : fitI ws (toI vn) ws.length) :
    Calls Try.prog 12 #[.slice ad ws.length cap, .slice ad2 ws.length cap2] w fun e w' => ∃ a c, e = .returned (.tuple #[.slice a n c, .int .i64 0]) ∧ Seg .u8 w' a (toI (M.bytesN n (M.packN 0 ws vn))) ∧ Below w.heap.size w w' ∧ n ≤ c ∧ c ≤ maxLen := by
  refine (pack_any ad ad2 cap cap2 n ws _ w hw hv (by rw [toI_len, hvl]) h64 hws htot).mono ?_
  rintro e w' ⟨v, er, rfl, hb, h | h⟩
  · obtain ⟨_, rfl, hown⟩ := h
    rw [vOf_full ws vn hvl, bytesV, toI_map] at hown
    obtain ⟨a, c, rfl, hs, _, h1, h2⟩ := owns_seg hown
    exact ⟨a, c, rfl, hs, hb, h1, h2⟩
  · exact absurd hf h.1
theorem sameInts_true (a b : Option Addr) (ca cb n : Nat) (zs : List Int) (w : World) (hl : Seg .i64 w a zs) (hm : Seg .i64 w b zs) (hn : zs.length = n) (hn2 : n ≤ 9223372036854775807) :
    Calls Try.prog 18 #[.slice a n ca, .slice b n cb] w fun e w' => e = .returned (.bool true) ∧ Below w.heap.size w w' := by
  subst hn
  refine (sameInts_any a b ca cb zs zs w hl hm hn2).mono ?_
  rintro e w' ⟨rfl, hb⟩
  exact ⟨by simp, hb⟩

theorem same_true (a b : Option Addr) (ca cb n : Nat) (cs : List Nat) (w : World) (hl : Seg .u8 w a (toI cs)) (hm : Seg .u8 w b (toI cs)) (hn : cs.length = n) (h256 : ∀ x ∈ cs, x < 256) :
    Calls Try.prog 19 #[.slice a n ca, .slice b n cb] w fun e w' => e = .returned (.bool true) ∧ w = w' := by
  subst hn
  refine (same_any a b ca cb cs cs w hl hm h256 h256).mono ?_
  rintro e w' ⟨rfl, rfl⟩
  exact ⟨by simp, rfl⟩
end Go.Proofs.Ytcgfdhmegagjdaa
