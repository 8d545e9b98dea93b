/-
  What the looks answer, each as one sentence for every place and number.
-/
import Derived.Test.YtcgfdhmegagjdaaWindow
import Derived.Test.YtcgfdhmegagjdaaRound
namespace Go.Proofs.Ytcgfdhmegagjdaa
open Go.RowKit

/-- Uint's error and value -/
def uE (len : Nat) (at' n : Int) : Int := if n < 1 ∨ 8 < n then 1 else if at' < 0 ∨ (len : Int) < at' + n then 10 else 0
def uV (bs : List Nat) (at' n : Int) : Int := if uE bs.length at' n = 0 then ((M.numB ((bs.drop at'.toNat).take n.toNat) : Nat) : Int) else 0
theorem uE_zero (len : Nat) (at' n : Int) : uE len at' n = 0 ↔ (1 ≤ n ∧ n ≤ 8 ∧ 0 ≤ at' ∧ at' + n ≤ len) := by
  unfold uE
  split
  · constructor
    · intro h; omega
    · intro h; omega
  · split
    · constructor
      · intro h; omega
      · intro h; omega
    · constructor
      · intro h; omega
      · intro h; rfl
theorem uint_total (ad : Option Addr) (len cap : Nat) (at' n : Int) (bs : List Nat) (w : World) (hl : bs.length = len) (hb : Seg .u8 w ad (toI bs)) (h256 : ∀ x ∈ bs, x < 256) (h2 : len ≤ cap) (h3 : cap ≤ 9223372036854775807) (ha : at' ≤ 9223372036854775807) :
    Calls Try.prog 46 #[.slice ad len cap, .int .i64 at', .int .i64 n] w fun e w' => e = .returned (.tuple #[.int .u64 (uV bs at' n), .int .i64 (uE len at' n)]) ∧ Below w.heap.size w w' := by
  subst hl
  by_cases h1 : n < 1 ∨ 8 < n
  · have e1 : uE bs.length at' n = 1 := by simp [uE, h1]
    have e2 : uV bs at' n = 0 := by simp [uV, e1]
    rw [e1, e2]
    exact uint_arg ad bs.length cap at' n w h1
  · by_cases ho : at' < 0 ∨ (bs.length : Int) < at' + n
    · have e1 : uE bs.length at' n = 10 := by simp [uE, h1, ho]
      have e2 : uV bs at' n = 0 := by simp [uV, e1]
      rw [e1, e2]
      exact uint_out ad bs.length cap at' n w (by omega) (by omega) h2 h3 ha ho
    · have e1 : uE bs.length at' n = 0 := by simp [uE, h1, ho]
      rw [uV, e1]
      simp only [if_true]
      obtain ⟨k, rfl⟩ : ∃ k : Nat, at' = (k : Int) := ⟨at'.toNat, by omega⟩
      obtain ⟨m, rfl⟩ : ∃ m : Nat, n = (m : Int) := ⟨n.toNat, by omega⟩
      exact uint_ok ad cap k m bs w hb h256 (by omega) (by omega) (by omega) h2 h3

/-- Window's error and bytes -/
def wE (len : Nat) (at' n : Int) : Int := if n < 0 then 1 else if at' < 0 ∨ (len : Int) < at' + n then 10 else 0
def wB (bs : List Nat) (at' n : Int) : List Nat := if wE bs.length at' n = 0 then (bs.drop at'.toNat).take n.toNat else []
theorem wE_zero (len : Nat) (at' n : Int) : wE len at' n = 0 ↔ (0 ≤ n ∧ 0 ≤ at' ∧ at' + n ≤ len) := by
  unfold wE
  split
  · constructor
    · intro h; omega
    · intro h; omega
  · split
    · constructor
      · intro h; omega
      · intro h; omega
    · constructor
      · intro h; omega
      · intro h; rfl
theorem window_total (ad : Option Addr) (len cap : Nat) (at' n : Int) (bs : List Nat) (w : World) (hl : bs.length = len) (hb : Seg .u8 w ad (toI bs)) (h2 : len ≤ cap) (h3 : cap ≤ 9223372036854775807) (ha : at' ≤ 9223372036854775807) (hn : n ≤ 9223372036854775807) :
    Calls Try.prog 53 #[.slice ad len cap, .int .i64 at', .int .i64 n] w fun e w' => ∃ wa, e = .returned (.tuple #[.slice wa (wB bs at' n).length (wB bs at' n).length, .int .i64 (wE len at' n)]) ∧ Seg .u8 w' wa (toI (wB bs at' n)) ∧ Below w.heap.size w w' := by
  subst hl
  by_cases h1 : n < 0
  · have e1 : wE bs.length at' n = 1 := by simp [wE, h1]
    have e2 : wB bs at' n = [] := by simp [wB, e1]
    rw [e1, e2]
    refine (window_arg ad bs.length cap at' n w h1).mono ?_
    rintro e w' ⟨rfl, hb'⟩
    exact ⟨none, rfl, .inl rfl, hb'⟩
  · by_cases ho : at' < 0 ∨ (bs.length : Int) < at' + n
    · have e1 : wE bs.length at' n = 10 := by simp [wE, h1, ho]
      have e2 : wB bs at' n = [] := by simp [wB, e1]
      rw [e1, e2]
      refine (window_out ad bs.length cap at' n w (by omega) (by omega) h2 h3 ha ho).mono ?_
      rintro e w' ⟨rfl, hb'⟩
      exact ⟨none, rfl, .inl rfl, hb'⟩
    · have e1 : wE bs.length at' n = 0 := by simp [wE, h1, ho]
      obtain ⟨k, rfl⟩ : ∃ k : Nat, at' = (k : Int) := ⟨at'.toNat, by omega⟩
      obtain ⟨m, rfl⟩ : ∃ m : Nat, n = (m : Int) := ⟨n.toNat, by omega⟩
      have e2 : wB bs k m = (bs.drop k).take m := by simp [wB, e1]
      have e3 : (wB bs k m).length = m := by rw [e2]; simp; omega
      rw [e1, e3, e2]
      refine (window_ok ad bs.length cap k m w (by omega) h2 h3).mono ?_
      rintro e w' ⟨rfl, hb'⟩
      refine ⟨_, rfl, ?_, hb'⟩
      rw [← toI_take, ← toI_drop]
      exact (hb.cut k m (by rw [toI_len]; omega)).old hb'

/-- Fields' error, place and values -/
def fE (len : Nat) (at' : Int) (ws : List Int) : Int := if okW ws = false then 11 else if at' < 0 ∨ (len : Int) < at' + sumI ws / 8 then 10 else 0
def fP (len : Nat) (at' : Int) (ws : List Int) : Int := if fE len at' ws = 0 then at' + sumI ws / 8 else 0
def fV (bs : List Nat) (at' : Int) (ws : List Int) : List Nat :=
  if fE bs.length at' ws = 0 then M.fieldsN (M.tot (ws.map Int.toNat)) (M.numB ((bs.drop at'.toNat).take (sumI ws / 8).toNat)) (ws.map Int.toNat) else []
theorem toNat_toI (l : List Nat) : (toI l).map Int.toNat = l := by
  unfold toI
  rw [List.map_map]
  conv => rhs; rw [← List.map_id l]
  apply List.map_congr_left
  intro x _
  simp
theorem fE_zero (len : Nat) (at' : Int) (ws : List Int) : fE len at' ws = 0 ↔ (okW ws = true ∧ 0 ≤ at' ∧ at' + sumI ws / 8 ≤ len) := by
  unfold fE
  split
  · rename_i h
    constructor
    · intro h'; omega
    · intro h'; rw [h] at h'; simp at h'
  · rename_i h
    have h' : okW ws = true := by simpa using h
    split
    · constructor
      · intro h'; omega
      · intro h'; omega
    · constructor
      · intro _; exact ⟨h', by omega⟩
      · intro _; rfl
theorem fields_total (ad ad2 : Option Addr) (len cap len2 cap2 : Nat) (at' : Int) (bs : List Nat) (ws : List Int) (w : World) (hl : bs.length = len) (hl2 : ws.length = len2) (hb : Seg .u8 w ad (toI bs)) (hw : Seg .i64 w ad2 ws) (h256 : ∀ x ∈ bs, x < 256)
    (h2 : len ≤ cap) (h3 : cap ≤ 9223372036854775807) (ha : at' ≤ 9223372036854775807) (hw2 : len2 ≤ 9223372036854775807) :
    Calls Try.prog 16 #[.slice ad len cap, .int .i64 at', .slice ad2 len2 cap2] w fun e w' => ∃ v, e = .returned (.tuple #[v, .int .i64 (fP len at' ws), .int .i64 (fE len at' ws)]) ∧
      w'.ownsRow w.heap.size 3 1 v (fV bs at' ws).length ((toI (fV bs at' ws)).map (Value.int .i64)) ∧ Below w.heap.size w w' := by
  subst hl hl2
  by_cases hok : okW ws = true
  · by_cases ho : at' < 0 ∨ (bs.length : Int) < at' + sumI ws / 8
    · have e1 : fE bs.length at' ws = 10 := by simp [fE, hok, ho]
      have e2 : fV bs at' ws = [] := by simp [fV, e1]
      have e3 : fP bs.length at' ws = 0 := by simp [fP, e1]
      rw [e1, e2, e3]
      refine (fields_out ad ad2 bs.length cap cap2 at' ws w hw hw2 hok h2 h3 ha ho).mono ?_
      rintro e w' ⟨rfl, hb'⟩
      exact ⟨_, rfl, World.ownsRow_nil _ _ _ _, hb'⟩
    · have e1 : fE bs.length at' ws = 0 := by simp [fE, hok, ho]
      obtain ⟨wn, rfl, h64, hws, h8⟩ := okW_nat ws hok
      obtain ⟨k, rfl⟩ : ∃ k : Nat, at' = (k : Int) := ⟨at'.toNat, by
        rw [sumI_toI] at ho
        omega⟩
      obtain ⟨m, hm⟩ : ∃ m, M.tot wn = 8 * m := ⟨M.tot wn / 8, by omega⟩
      have es : sumI (toI wn) / 8 = (m : Int) := by rw [sumI_toI]; omega
      rw [es] at ho
      have e2 : fV bs k (toI wn) = M.fieldsN (M.tot wn) (M.numB ((bs.drop k).take m)) wn := by simp only [fV, e1, if_true, es, toNat_toI, Int.toNat_natCast]
      have e3 : fP bs.length k (toI wn) = ((k + m : Nat) : Int) := by simp only [fP, e1, if_true, es]; omega
      rw [e1, e2, e3, toI_len]
      refine (fields_ok ad ad2 cap cap2 k m bs wn w hb hw h256 h64 hws hm (by omega) h2 h3).mono ?_
      rintro e w' ⟨v, rfl, hown, hb'⟩
      refine ⟨v, rfl, ?_, hb'⟩
      rw [toI_map] at hown
      rw [M.length_fieldsN]
      exact hown
  · have hbad : okW ws = false := by simpa using hok
    have e1 : fE bs.length at' ws = 11 := by simp [fE, hbad]
    have e2 : fV bs at' ws = [] := by simp [fV, e1]
    have e3 : fP bs.length at' ws = 0 := by simp [fP, e1]
    rw [e1, e2, e3]
    refine (fields_widths ad ad2 bs.length cap cap2 at' ws w hw hw2 hbad).mono ?_
    rintro e w' ⟨rfl, hb'⟩
    exact ⟨_, rfl, World.ownsRow_nil _ _ _ _, hb'⟩
end Go.Proofs.Ytcgfdhmegagjdaa
