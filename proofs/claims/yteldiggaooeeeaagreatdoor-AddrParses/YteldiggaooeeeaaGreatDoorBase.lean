/-
  Words for what a call is handed: rows of integers in memory, and small laws on worlds.
-/
import Derived.Test.YteldiggaooeeeaaGreatDoorProg
import Derived.WalkKit
import Derived.WalkSpells
import Derived.WalkLawsBesides
import Derived.Test.YteldiggaooeeeaaGreatDoorMath
namespace Go.Proofs.YteldiggaooeeeaaGreatDoor
open Go.RowKit

/-- A slice's first elements: there is none, or they lie in a row of cells. -/
def Seg (k : IntKind) (w : World) (a : Option Addr) (zs : List Int) : Prop :=
  zs = [] ∨ ∃ b off, a = some ⟨b, off, none⟩ ∧ ∀ i, i < zs.length → w.cell? ⟨b, off + i, none⟩ = some (.int k (zs.getD i 0))
/-- bytes: the same, as natural numbers -/
def toI (l : List Nat) : List Int := l.map (fun x : Nat => (x : Int))
theorem toI_len (l : List Nat) : (toI l).length = l.length := by simp [toI]
theorem toI_getD (l : List Nat) (i : Nat) : (toI l).getD i 0 = ((l.getD i 0 : Nat) : Int) := by
  simp only [toI, List.getD, List.getElem?_map]
  cases l[i]? <;> rfl
theorem toI_take (l : List Nat) (i : Nat) : (toI l).take i = toI (l.take i) := by simp [toI]
theorem toI_drop (l : List Nat) (i : Nat) : (toI l).drop i = toI (l.drop i) := by simp [toI]

/-- the cells of a row lie below B -/
def In (B : Nat) (a : Option Addr) (n : Nat) : Prop := n = 0 ∨ ∃ b off, a = some ⟨b, off, none⟩ ∧ b < B
theorem Seg.lt {k : IntKind} {w : World} {a : Option Addr} {zs : List Int} (h : Seg k w a zs) : In w.heap.size a zs.length := by
  rcases h with rfl | ⟨b, off, rfl, hc⟩
  · exact .inl rfl
  · by_cases h0 : zs.length = 0
    · exact .inl h0
    · exact .inr ⟨b, off, rfl, World.block_lt_of_cell? w _ (hc 0 (by omega))⟩
theorem In.mono {B C : Nat} {a : Option Addr} {n : Nat} (h : In B a n) (hBC : B ≤ C) : In C a n := by
  rcases h with h | ⟨b, off, h, hb⟩
  · exact .inl h
  · exact .inr ⟨b, off, h, by omega⟩
theorem Seg.below {k : IntKind} {w w' : World} {a : Option Addr} {zs : List Int} {B : Nat} (h : Seg k w a zs) (hi : In B a zs.length) (hb : Below B w w') : Seg k w' a zs := by
  rcases h with rfl | ⟨b, off, rfl, hc⟩
  · exact .inl rfl
  · rcases hi with h0 | ⟨b', off', e, hlt⟩
    · exact .inl (List.eq_nil_of_length_eq_zero h0)
    · simp only [Option.some.injEq, Addr.mk.injEq, and_true] at e
      obtain ⟨rfl, rfl⟩ := e
      exact .inr ⟨b, off, rfl, fun i hi' => (hb.cell (p := ⟨b, off + i, none⟩) hlt).trans (hc i hi')⟩
theorem Seg.old {k : IntKind} {w w' : World} {a : Option Addr} {zs : List Int} (h : Seg k w a zs) (hb : Below w.heap.size w w') : Seg k w' a zs := h.below h.lt hb

/-- where 'cut' begins -/
def cutA (a : Option Addr) (at' n : Nat) : Option Addr := if n = 0 then a else a.map (fun x => x.add at')
theorem Seg.cut {k : IntKind} {w : World} {a : Option Addr} {zs : List Int} (h : Seg k w a zs) (at' n : Nat) (hl : at' + n ≤ zs.length) : Seg k w (cutA a at' n) ((zs.drop at').take n) := by
  by_cases h0 : n = 0
  · subst h0; exact .inl (by simp)
  · rcases h with rfl | ⟨b, off, rfl, hc⟩
    · simp at hl; omega
    · refine .inr ⟨b, off + at', by simp [cutA, h0, Addr.add], ?_⟩
      intro i hi
      simp only [List.length_take, List.length_drop] at hi
      have := hc (at' + i) (by omega)
      rw [Nat.add_assoc, this]
      have hi1 : i < n := by omega
      simp [List.getD, hi1]

theorem Seg.part {k : IntKind} {w : World} {a : Option Addr} {zs : List Int} (h : Seg k w a zs) (at' n : Nat) (hl : at' + n ≤ zs.length) : Seg k w (a.map (fun x => x.add at')) ((zs.drop at').take n) := by
  by_cases h0 : n = 0
  · subst h0; exact .inl (by simp)
  · have := h.cut at' n hl
    rwa [cutA, if_neg h0] at this

theorem Seg.part0 {k : IntKind} {w : World} {a : Option Addr} {zs : List Int} (h : Seg k w a zs) (n : Nat) (hl : n ≤ zs.length) : Seg k w a (zs.take n) := by
  rcases h with rfl | ⟨b, off, rfl, hc⟩
  · exact .inl (by simp)
  · refine .inr ⟨b, off, rfl, fun i hi => ?_⟩
    simp only [List.length_take] at hi
    rw [hc i (by omega)]
    have hi1 : i < n := by omega
    simp [List.getD, hi1]

/-- What is told of a slice of integers that came in: it is nil; or it leads to a row of 'cap' cells that hold the numbers 'zs', each of which fits its kind. -/
def IsRow (k : IntKind) (w : World) (a : Option Addr) (len cap : Nat) (zs : List Int) : Prop :=
  (a = none ∧ len = 0 ∧ cap = 0 ∧ zs = []) ∨
  ∃ x, a = some x ∧ len ≤ cap ∧ cap ≤ maxLen ∧ zs.length = cap ∧ (∀ i, i < zs.length → w.cell? (x.add i) = some (.int k (zs.getD i 0))) ∧ ∀ n ∈ zs, (Lit.int k n).wf = true
theorem IsRow.seg {k : IntKind} {w : World} {a : Option Addr} {len cap : Nat} {zs : List Int} (h : IsRow k w a len cap zs) :
    ∃ ys : List Int, ys.length = len ∧ Seg k w a ys ∧ len ≤ cap ∧ cap ≤ 9223372036854775807 ∧ ∀ n ∈ ys, (Lit.int k n).wf = true := by
  rcases h with ⟨rfl, rfl, rfl, rfl⟩ | ⟨⟨b, off, spot⟩, rfl, hl, hm, hz, hc, hw⟩
  · exact ⟨[], rfl, .inl rfl, Nat.le_refl _, by omega, by intro n hn; cases hn⟩
  · refine ⟨zs.take len, by simp; omega, ?_, hl, by unfold maxLen at hm; exact hm, fun n hn => hw n (List.mem_of_mem_take hn)⟩
    by_cases h0 : len = 0
    · subst h0; exact .inl (by simp)
    · have h1 := hc 0 (by omega)
      have hs : spot = none := by simpa [Addr.add] using World.cell?_spot h1
      subst hs
      refine .inr ⟨b, off, rfl, fun i hi => ?_⟩
      simp only [List.length_take] at hi
      have := hc i (by omega)
      rw [Addr.add_lit] at this
      rw [this]
      have hi1 : i < len := by omega
      simp [List.getD, hi1]
/-- bytes that came in -/
theorem IsRow.bytes {w : World} {a : Option Addr} {len cap : Nat} {zs : List Int} (h : IsRow .u8 w a len cap zs) :
    ∃ bs : List Nat, bs.length = len ∧ Seg .u8 w a (toI bs) ∧ len ≤ cap ∧ cap ≤ 9223372036854775807 ∧ ∀ x ∈ bs, x < 256 := by
  obtain ⟨ys, hl, hs, h1, h2, hw⟩ := h.seg
  have hb : ∀ n ∈ ys, 0 ≤ n ∧ n ≤ 255 := fun n hn => by
    have := hw n hn
    simp [Lit.wf, IntKind.min, IntKind.max, IntKind.bits, IntKind.signed] at this
    omega
  have e : ys = toI (ys.map Int.toNat) := by
    unfold toI
    rw [List.map_map]
    conv => lhs; rw [← List.map_id ys]
    apply List.map_congr_left
    intro x hx
    have := hb x hx
    simp; omega
  refine ⟨ys.map Int.toNat, by simpa using hl, by rw [← e]; exact hs, h1, h2, ?_⟩
  intro x hx
  simp only [List.mem_map] at hx
  obtain ⟨y, hy, rfl⟩ := hx
  have := hb y hy
  omega

/-- the widths that may be -/
def okW (ws : List Int) : Bool := decide (ws.length ≤ 64) && ws.all (fun w => decide (1 ≤ w ∧ w ≤ 32)) && decide (ws.foldl (· + ·) 0 % 8 = 0)
def sumI (ws : List Int) : Int := ws.foldl (· + ·) 0
def boN (ws : List Int) : Int := if okW ws then sumI ws / 8 else 0
def boE (ws : List Int) : Int := if okW ws then 0 else 11

theorem sumI_take_succ (ws : List Int) (k : Nat) (h : k < ws.length) : sumI (ws.take (k + 1)) = sumI (ws.take k) + ws.getD k 0 := by
  unfold sumI
  rw [List.take_succ_eq_append_getElem h, List.foldl_append]
  simp [List.getD, h]
theorem sumI_toI (l : List Nat) : sumI (toI l) = (M.tot l : Int) := by
  have key : ∀ (l : List Nat) (a : Int), (toI l).foldl (· + ·) a = a + (M.tot l : Int) := by
    intro l
    induction l with
    | nil => intro a; simp [toI, M.tot]
    | cons x l ih =>
      intro a
      have e : toI (x :: l) = (x : Int) :: toI l := rfl
      rw [e, List.foldl_cons, ih, M.tot_cons]
      omega
  have := key l 0
  simpa [sumI] using this
/-- widths that may be are natural numbers -/
theorem okW_nat (ws : List Int) (h : okW ws = true) : ∃ l : List Nat, ws = toI l ∧ l.length ≤ 64 ∧ (∀ x ∈ l, 1 ≤ x ∧ x ≤ 32) ∧ M.tot l % 8 = 0 := by
  unfold okW at h
  simp only [Bool.and_eq_true, decide_eq_true_eq, List.all_eq_true] at h
  obtain ⟨⟨h1, h2⟩, h3⟩ := h
  have e : ws = toI (ws.map Int.toNat) := by
    unfold toI
    rw [List.map_map]
    conv => lhs; rw [← List.map_id ws]
    apply List.map_congr_left
    intro x hx
    have := h2 x hx
    simp; omega
  refine ⟨ws.map Int.toNat, e, by simpa using h1, ?_, ?_⟩
  · intro x hx
    simp only [List.mem_map] at hx
    obtain ⟨y, hy, rfl⟩ := hx
    have := h2 y hy
    omega
  · have h4 : sumI ws % 8 = 0 := h3
    rw [e, sumI_toI] at h4
    omega

/-- what is owned from a block on is owned from any block ahead of it -/
theorem owns_mono {w : World} {base base' : Nat} {e : TypeId} {size : Nat} {v : Value} {n : Nat} {xs : List Value} (h : w.ownsRow base e size v n xs) (hb : base' ≤ base) : w.ownsRow base' e size v n xs := by
  refine ⟨h.1, ?_⟩
  rcases h.2 with h2 | ⟨g, cap, cur, hv, hg, r⟩
  · exact .inl h2
  · exact .inr ⟨g, cap, cur, hv, by omega, r⟩
theorem owns_shape {w : World} {base : Nat} {e : TypeId} {size : Nat} {v : Value} {n : Nat} {xs : List Value} (h : w.ownsRow base e size v n xs) : ∃ a c, v = .slice a n c := by
  rcases h.2 with ⟨rfl, rfl⟩ | ⟨g, cap, cur, hv, r⟩
  · exact ⟨none, 0, rfl⟩
  · exact ⟨_, _, hv⟩

theorem ret2 {k1 k2 : IntKind} {a b c d : Int} (h1 : a = b) (h2 : c = d) : Ending.returned (.tuple #[.int k1 a, .int k2 c]) = .returned (.tuple #[.int k1 b, .int k2 d]) := by rw [h1, h2]
theorem ret1 {k : IntKind} {a b : Int} (h : a = b) : Ending.returned (.int k a) = .returned (.int k b) := by rw [h]

theorem Tryz.infoInt : (Tryz.prog.info? 3).map (fun i => (i.zero, i.size, i.bytes)) = some (some (.int .i64 0), 1, 8) := by kernel_rfl
theorem Tryz.infoByte : (Tryz.prog.info? 5).map (fun i => (i.zero, i.size, i.bytes)) = some (some (.int .u8 0), 1, 1) := by kernel_rfl
end Go.Proofs.YteldiggaooeeeaaGreatDoor
