/-
  weirref4: what is read of a text of version 6 (six): fail, room, between.
-/
import Derived.Test.YtclpeepnngegaaaDoorR4f
import Derived.Test.YtclpeepnngegaaaDoorMixH
namespace Go.Proofs.YtclpeepnngegaaaDoor
open Go.RowKit Go.Maps

/-- groups, ahead of which the :: stands, the place, an error and its place -/
structure SX where
  g : List Nat
  gap : Int
  p : Nat
  er : Nat
  pl : Nat
def SX.fail (X : SX) (e a : Nat) : SX := if X.er == 0 then { X with er := e, pl := a } else X
def sxC (s : ByteArray) (lv : Value) (X : SX) : Array Value := #[.string s, lv, .int .i64 X.gap, .int .i64 (X.p : Nat), .int .i64 (X.er : Nat), .int .i64 (X.pl : Nat)]
structure SxAt (w : World) (R : Nat) (s : ByteArray) (lv : Value) (X : SX) : Prop where
  blk : w.heap[R]? = some (.cells (sxC s lv X) 143 (0, 0))
  own : w.ownsRow (R + 1) 3 1 lv X.g.length (X.g.map fun n => Value.int .i64 (n : Nat))
section
variable {w : World} {R : Nat} {s : ByteArray} {lv : Value} {X : SX} (k : SxAt w R s lv X)
include k
theorem SxAt.lt : R < w.heap.size := (Array.getElem?_eq_some_iff.1 k.blk).1
theorem SxAt.cell (i : Nat) : w.cell? ⟨R, i, none⟩ = (sxC s lv X)[i]? := by have := k.blk; simp [World.cell?, this]
theorem SxAt.c0 : w.cell? ⟨R, 0, none⟩ = some (.string s) := k.cell 0
theorem SxAt.c1 : w.cell? ⟨R, 1, none⟩ = some lv := k.cell 1
theorem SxAt.c2 : w.cell? ⟨R, 2, none⟩ = some (.int .i64 X.gap) := k.cell 2
theorem SxAt.c3 : w.cell? ⟨R, 3, none⟩ = some (.int .i64 (X.p : Nat)) := k.cell 3
theorem SxAt.c4 : w.cell? ⟨R, 4, none⟩ = some (.int .i64 (X.er : Nat)) := k.cell 4
theorem SxAt.c5 : w.cell? ⟨R, 5, none⟩ = some (.int .i64 (X.pl : Nat)) := k.cell 5
theorem SxAt.fz (j : Nat) : w.frozen? ⟨R, j, none⟩ = false := by have := k.blk; simp [World.frozen?, this]
theorem SxAt.ch {S : Nat → Prop} {w' : World} (c : Ch S w w') (hR : ¬ S R) (hS : ∀ q, R < q → ¬ S q) : SxAt w' R s lv X :=
  ⟨(c.block R k.lt hR).trans k.blk, c.owns k.own (fun g hg => hS g (k.own.lt g hg).1)⟩
theorem SxAt.below {w' : World} (c : Below w.heap.size w w') : SxAt w' R s lv X := k.ch (Ch.ofBelow (S := fun _ => False) c) (fun h => h) (fun _ _ h => h)
theorem SxAt.set (i : Nat) (v : Value) {X' : SX} (hg : X'.g = X.g) (hC : (sxC s lv X).setIfInBounds i v = sxC s lv X') : SxAt (w.setCell ⟨R, i, none⟩ v) R s lv X' := by
  refine ⟨?_, ?_⟩
  · rw [heap_setCell_same w R i _ _ v k.blk, hC]
  · rw [hg]
    exact ((Ch.refl (fun q => q = R) w).set ⟨R, i, none⟩ v rfl).owns k.own (fun g h1 h2 => by have := (k.own.lt g h1).1; omega)
end
set_option maxHeartbeats 1600000 in
set_option maxRecDepth 100000 in
theorem fail_any (R : Nat) (s : ByteArray) (lv : Value) (X : SX) (e a : Nat) (w : World) (h : SxAt w R s lv X) : Calls Tryd.prog 89 #[.pointer (some ⟨R, 0, none⟩), .int .i64 (e : Nat), .int .i64 (a : Nat)] w fun r w' => r = .returned (.tuple #[]) ∧ SxAt w' R s lv (X.fail e a) ∧ Ch (fun q => q = R) w w' := by
  have HH : Hid (SxAt w R s lv X) := h
  have c4 := h.c4
  have f4 := h.fz 4
  have H1 : Hid (SxAt (w.setCell ⟨R, 4, none⟩ (.int .i64 (e : Nat))) R s lv { X with er := e }) := h.set 4 _ rfl rfl
  have f5 := H1.out.fz 5
  have c5 := H1.out.c5
  have H2 : Hid (SxAt ((w.setCell ⟨R, 4, none⟩ (.int .i64 (e : Nat))).setCell ⟨R, 5, none⟩ (.int .i64 (a : Nat))) R s lv { X with er := e, pl := a }) := H1.out.set 5 _ rfl rfl
  clear h
  go_enter Tryd.func89, Tryd.ntmps89
  by_cases he : X.er = 0
  · have q1 : (((X.er : Nat) : Int) == 0) = true := by simp [he]
    have HR : Hid (X.fail e a = { X with er := e, pl := a }) := by show _ = _; unfold SX.fail; rw [he]; rfl
    clear he
    go_wp2
    refine bodyPost_end (results_none rfl _ _ _) rfl ?_
    exact ⟨rfl, by rw [HR.out]; exact H2.out, ((Ch.refl (fun q => q = R) w).set ⟨R, 4, none⟩ _ rfl).set ⟨R, 5, none⟩ _ rfl⟩
  · have q1 : (((X.er : Nat) : Int) == 0) = false := by simp [he]
    have HR : Hid (X.fail e a = X) := by show _ = _; unfold SX.fail; rw [beq_false_of_ne he]; rfl
    clear he
    go_wp2
    refine bodyPost_end (results_none rfl _ _ _) rfl ?_
    exact ⟨rfl, by rw [HR.out]; exact HH.out, Ch.refl _ w⟩
def rmN (X : SX) : Nat := if decide (0 ≤ X.gap) then 7 else 8
set_option maxHeartbeats 1600000 in
set_option maxRecDepth 100000 in
theorem room_any (R : Nat) (s : ByteArray) (lv : Value) (X : SX) (w : World) (h : SxAt w R s lv X) : Calls Tryd.prog 91 #[.pointer (some ⟨R, 0, none⟩)] w fun r w' => r = .returned (.int .i64 (rmN X : Nat)) ∧ w = w' := by
  have c2 := h.c2
  obtain ⟨g, hg⟩ : ∃ g, X.gap = g := ⟨_, rfl⟩
  have HG : Hid (X.gap = g) := hg
  rw [hg] at c2
  clear h hg
  go_enter Tryd.func91, Tryd.ntmps91
  by_cases he : 0 ≤ g
  · have q1 : decide (0 ≤ g) = true := decide_eq_true he
    have HR : Hid (rmN X = 7) := by show _ = _; unfold rmN; rw [HG.out, q1]; rfl
    clear he
    go_wp2
    go_ret
    exact ⟨by rw [HR.out]; rfl, rfl⟩
  · have q1 : decide (0 ≤ g) = false := decide_eq_false he
    have HR : Hid (rmN X = 8) := by show _ = _; unfold rmN; rw [HG.out, q1]; rfl
    clear he
    go_wp2
    go_ret
    exact ⟨by rw [HR.out]; rfl, rfl⟩
end Go.Proofs.YtclpeepnngegaaaDoor
