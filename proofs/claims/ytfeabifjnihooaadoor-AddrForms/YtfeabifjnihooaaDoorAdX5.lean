/-
  Layer 4: where the groups of an address of version 6 come to lie.
-/
import Derived.Test.YtfeabifjnihooaaDoorAdX4
import Derived.Laws.CopyOwn
namespace Go.Proofs.YtfeabifjnihooaaDoor
open Go.RowKit

theorem fil_step (X : SX) (k i : Nat) : fil X (k + 1) i = if i / 2 = kI X k then gb X.g (2 * k + i % 2) else fil X k i := by
  show up1 (up1 (fil X k) (2 * kI X k) (X.g.getD k 0 / 256)) (2 * kI X k + 1) (X.g.getD k 0 % 256) i = _
  unfold up1 gb
  by_cases h1 : i = 2 * kI X k + 1
  · rw [if_pos h1, if_pos (by omega), show 2 * k + i % 2 = 2 * k + 1 by omega, if_neg (by omega), show (2 * k + 1) / 2 = k by omega]
  · rw [if_neg h1]
    by_cases h2 : i = 2 * kI X k
    · rw [if_pos h2, if_pos (by omega), show 2 * k + i % 2 = 2 * k by omega, if_pos (by omega), show 2 * k / 2 = k by omega]
    · rw [if_neg h2, if_neg (by omega)]
/-- the byte at i: ahead of the gap, behind it, or in it -/
def adr (X : SX) (k i : Nat) : Nat := if i / 2 < k ∧ ¬ (0 ≤ X.gap ∧ X.gap ≤ (i / 2 : Nat)) then gb X.g i else if 0 ≤ X.gap ∧ X.gap + ((8 - X.g.length : Nat) : Int) ≤ (i / 2 : Nat) ∧ i / 2 < k + (8 - X.g.length) then gb X.g (i - 2 * (8 - X.g.length)) else 0
theorem fil_adr {X : SX} (hg : X.gap ≤ (X.g.length : Nat)) : ∀ k, k ≤ X.g.length → ∀ i, fil X k i = adr X k i
  | 0, _, i => by
    show 0 = _
    unfold adr
    rw [if_neg (by omega), if_neg (by omega)]
  | k + 1, hk, i => by
    rw [fil_step, fil_adr hg k (by omega) i]
    by_cases hc : 0 ≤ X.gap ∧ X.gap ≤ (k : Int)
    · have hK : kI X k = 8 - X.g.length + k := by unfold kI; rw [if_pos (by simp [hc])]
      rw [hK]
      by_cases h1 : i / 2 = 8 - X.g.length + k
      · rw [if_pos h1]
        unfold adr
        rw [if_neg (by omega), if_pos (by omega), show i - 2 * (8 - X.g.length) = 2 * k + i % 2 by omega]
      · rw [if_neg h1]
        have e1 : (i / 2 < k + 1 ∧ ¬ (0 ≤ X.gap ∧ X.gap ≤ (i / 2 : Nat))) ↔ (i / 2 < k ∧ ¬ (0 ≤ X.gap ∧ X.gap ≤ (i / 2 : Nat))) := by omega
        have e2 : (0 ≤ X.gap ∧ X.gap + ((8 - X.g.length : Nat) : Int) ≤ (i / 2 : Nat) ∧ i / 2 < k + 1 + (8 - X.g.length)) ↔ (0 ≤ X.gap ∧ X.gap + ((8 - X.g.length : Nat) : Int) ≤ (i / 2 : Nat) ∧ i / 2 < k + (8 - X.g.length)) := by omega
        unfold adr
        simp only [e1, e2]
    · have hK : kI X k = k := by unfold kI; rw [if_neg (by simp only [Bool.and_eq_true, decide_eq_true_eq]; exact hc)]
      rw [hK]
      by_cases h1 : i / 2 = k
      · rw [if_pos h1]
        unfold adr
        rw [if_pos (by omega), show 2 * k + i % 2 = i by omega]
      · rw [if_neg h1]
        have e1 : (i / 2 < k + 1 ∧ ¬ (0 ≤ X.gap ∧ X.gap ≤ (i / 2 : Nat))) ↔ (i / 2 < k ∧ ¬ (0 ≤ X.gap ∧ X.gap ≤ (i / 2 : Nat))) := by omega
        have e2 : (0 ≤ X.gap ∧ X.gap + ((8 - X.g.length : Nat) : Int) ≤ (i / 2 : Nat) ∧ i / 2 < k + 1 + (8 - X.g.length)) ↔ (0 ≤ X.gap ∧ X.gap + ((8 - X.g.length : Nat) : Int) ≤ (i / 2 : Nat) ∧ i / 2 < k + (8 - X.g.length)) := by omega
        unfold adr
        simp only [e1, e2]
/-- the :: stands no further on than the groups go, and stands for one at least -/
def SxGp (X : SX) : Prop := X.gap ≤ (X.g.length : Nat) ∧ (0 ≤ X.gap → X.g.length ≤ 7)
theorem sx0_gp (s : ByteArray) : SxGp (sx0 s).1 := by
  unfold sx0 SxGp
  split
  · simp
  · simp
theorem SX.fail_gp {X : SX} (h : SxGp X) (e a : Nat) : SxGp (X.fail e a) := by
  unfold SX.fail
  split <;> exact h
theorem grp_gp {s : ByteArray} {X : SX} (h : SxGp X) : SxGp (grp s X).1 := by
  have hr : 0 ≤ X.gap → rmN X = 7 := fun h => by unfold rmN; rw [if_pos (by simp [h])]
  have hA : ∀ (l : List Nat) (q : Nat), ¬ rmN X < X.g.length + l.length → SxGp { X with g := X.g ++ l, p := q } := fun l q hl => by
    unfold SxGp at h ⊢
    refine ⟨by simp; omega, fun h0 => ?_⟩
    have := hr h0
    show (X.g ++ l).length ≤ 7
    rw [List.length_append]
    omega
  unfold grp grpq
  obtain ⟨q, hq⟩ : ∃ q, q = scP s hxB X.p := ⟨_, rfl⟩
  rw [← hq]
  cases c1 : q == X.p with
  | true => exact SX.fail_gp h _ _
  | false =>
    cases c2 : decide (rmN X < X.g.length + (if tlB s X q then 2 else 1)) with
    | true => exact SX.fail_gp h _ _
    | false =>
      rw [decide_eq_false_iff_not] at c2
      cases c3 : tlB s X q with
      | true =>
        rw [c3] at c2
        cases hd : dtd s 4 X.p [] with
        | inr e => exact SX.fail_gp h _ _
        | inl l => exact hA _ _ c2
      | false =>
        rw [c3] at c2
        cases c4 : decide (4 < q - X.p) with
        | true => exact SX.fail_gp h _ _
        | false => exact hA _ _ c2
theorem btw_gp {s : ByteArray} {X : SX} (hl : X.g.length ≤ 8) (h : SxGp X) : SxGp (btw s X).1 := by
  unfold btw
  split
  · split
    · exact SX.fail_gp h _ _
    · rename_i h2
      simp at h2
      unfold SxGp
      refine ⟨by simp, fun _ => ?_⟩
      show X.g.length ≤ 7
      omega
  · split
    · exact h
    · exact SX.fail_gp h _ _
theorem rnd_gp {s : ByteArray} {X : SX} (ho : SxOk s X) (h : SxGp X) : SxGp (rnd s X).1 := by
  unfold rnd
  split
  · exact btw_gp (grp_ok' ho).l (grp_gp h)
  · exact grp_gp h
theorem splice_get {L cs : List Value} {off : Nat} (h : off + cs.length ≤ L.length) (i : Nat) : (splice L off cs)[i]? = if off ≤ i ∧ i < off + cs.length then cs[i - off]? else L[i]? := by
  unfold splice
  by_cases h1 : i < off
  · rw [if_neg (by omega), List.getElem?_append_left (by rw [List.length_take]; omega), List.getElem?_take, if_pos h1]
  · rw [List.getElem?_append_right (by rw [List.length_take]; omega), List.length_take, show min off L.length = off by omega]
    by_cases h2 : i < off + cs.length
    · rw [if_pos (by omega), List.getElem?_append_left (by omega)]
    · rw [if_neg (by omega), List.getElem?_append_right (by omega), List.getElem?_drop]
      congr 1
      omega
def cAh (X : SX) (a : Nat) : List Value := (List.range (2 * a)).map fun i => .int .u8 (gb X.g i : Nat)
def cBe (X : SX) (a n : Nat) : List Value := (List.range (2 * n - 2 * a)).map fun i => .int .u8 (gb X.g (2 * a + i) : Nat)
theorem arL (x : Nat → Nat) : (arCells x).toList = (List.range 16).map fun i => Value.int .u8 (x i : Nat) := rfl
theorem adr_cells {X : SX} {a n : Nat} (hn : X.g.length = n) (ha : X.gap = (a : Int)) (h1 : a ≤ n) (h7 : n ≤ 7) : splice (splice (arCells (fun _ => 0)).toList 0 (cAh X a)) (16 - (2 * n - 2 * a)) (cBe X a n) = (arCells (adr X n)).toList := by
  have l1 : (cAh X a).length = 2 * a := by simp [cAh]
  have l2 : (cBe X a n).length = 2 * n - 2 * a := by simp [cBe]
  have l0 : (arCells (fun _ => 0)).toList.length = 16 := rfl
  have l3 : (splice (arCells (fun _ => 0)).toList 0 (cAh X a)).length = 16 := by rw [length_splice _ _ _ (by rw [l1, l0]; omega), l0]
  refine List.ext_getElem? fun i => ?_
  rw [splice_get (by rw [l2, l3]; omega), splice_get (by rw [l1, l0]; omega), l1, l2, arL, arL]
  by_cases h16 : i < 16
  · rw [List.getElem?_map, List.getElem?_map, List.getElem?_range h16]
    show _ = some (Value.int .u8 (adr X n i : Nat))
    unfold adr
    rw [hn, ha]
    by_cases c1 : 16 - (2 * n - 2 * a) ≤ i
    · rw [if_pos (by omega), if_neg (by omega), if_pos (by omega)]
      unfold cBe
      rw [List.getElem?_map, List.getElem?_range (by omega)]
      show some (Value.int .u8 (gb X.g (2 * a + (i - (16 - (2 * n - 2 * a)))) : Nat)) = _
      rw [show 2 * a + (i - (16 - (2 * n - 2 * a))) = i - 2 * (8 - n) by omega]
    · rw [if_neg (by omega)]
      by_cases c2 : i < 2 * a
      · rw [if_pos (by omega), if_pos (by omega)]
        unfold cAh
        rw [List.getElem?_map, List.getElem?_range (by omega)]
        rfl
      · rw [if_neg (by omega), if_neg (by omega), if_neg (by omega)]
        rfl
  · rw [if_neg (by omega), if_neg (by omega), List.getElem?_eq_none (by simp; omega), List.getElem?_eq_none (by simp; omega)]
theorem adr_flat {X : SX} {n : Nat} (ha : X.gap < 0) (h8 : n = 8) : ∀ i, i < 16 → adr X n i = gb X.g i := fun i hi => by
  unfold adr
  rw [if_pos (by omega)]
end Go.Proofs.YtfeabifjnihooaaDoor
