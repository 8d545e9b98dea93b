/-
  The statements' own list: the parts, each with a wide room behind it, and rows of two marks behind them all.
-/
import Derived.Test.YtbbhnekdejamiaaWide3
namespace Go.Proofs.Ytbbhnekdejamiaa.Wd
open Go.RowKit
open Ap

/-- a part in the list: its block, its bytes -/
structure LE where
  g : Nat
  l : List Nat
def LE.v (e : LE) : Value := .slice (some ⟨e.g, 0, none⟩) e.l.length (2 * e.l.length + 70)
def mkV (ms : List Nat) : List Value := ms.map (fun g => .slice (some ⟨g, 0, none⟩) 2 2)
/-- the list in memory -/
structure Li (B : Nat) (w : World) (v : Value) (E : List LE) (ms : List Nat) : Prop where
  row : w.ownsRow B 26 1 v (E.length + ms.length) (E.map LE.v ++ mkV ms)
  own : ∀ e ∈ E, OwnB w B (.slice (some ⟨e.g, 0, none⟩) (2 * e.l.length + 70) (2 * e.l.length + 70)) (2 * e.l.length + 70) (wide e.l)
  mks : ∀ j g, ms[j]? = some g → OwnB w B (.slice (some ⟨g, 0, none⟩) 2 2) 2 [j % 256, 7]
  nd : (E.map LE.g ++ ms).Nodup
  sz : B ≤ w.heap.size
variable {B : Nat} {w w1 w2 : World} {v v' : Value} {E : List LE} {ms : List Nat}
theorem Li.lt (h : Li B w v E ms) : ∀ q ∈ E.map LE.g ++ ms, q < w.heap.size := by
  intro q hq
  rcases List.mem_append.1 hq with hq | hq
  · obtain ⟨e, he, rfl⟩ := List.mem_map.1 hq
    exact ((h.own e he).lt e.g rfl).2
  · obtain ⟨j, hj⟩ := List.getElem?_of_mem hq
    exact ((h.mks j q hj).lt q rfl).2
theorem Li.below (h : Li B w v E ms) (k : Below w.heap.size w w1) : Li B w1 v E ms :=
  ⟨h.row.kept (below_grown k none) (by cases hv : v.ownBlock <;> simp), fun e he => (h.own e he).below k, fun j g hj => (h.mks j g hj).below k, h.nd, Nat.le_trans h.sz k.size⟩
/-- one part more -/
theorem Li.part (h : Li B w v E []) (e : LE) (k : Below w.heap.size w w1) (ho : OwnB w1 w.heap.size (.slice (some ⟨e.g, 0, none⟩) (2 * e.l.length + 70) (2 * e.l.length + 70)) (2 * e.l.length + 70) (wide e.l)) (o : Obj)
    (hr : w2.ownsRow B 26 1 v' (E.length + 1) (E.map LE.v ++ [e.v])) (hg : (w1.alloc o).grownBy w2 v.ownBlock) : Li B w2 v' (E ++ [e]) [] := by
  have h1 := h.below k
  have r1 := h1.row.alloc o
  have hgB : w.heap.size ≤ e.g := (ho.lt e.g rfl).1
  refine ⟨by simpa [mkV] using hr, fun x hx => ?_, fun j g hj => by simp at hj, ?_, ?_⟩
  · have hx1 : OwnB w1 B (.slice (some ⟨x.g, 0, none⟩) (2 * x.l.length + 70) (2 * x.l.length + 70)) (2 * x.l.length + 70) (wide x.l) := by
      rcases List.mem_append.1 hx with hx | hx
      · exact h1.own x hx
      · have e1 : x = e := by simpa using hx
        subst e1; exact owns_mono ho h.sz
    have hx2 := hx1.alloc o
    exact hx2.kept hg (apart hx2 r1 (by decide))
  · have hl := h.lt
    have hn := h.nd
    simp only [List.append_nil, List.map_append, List.map_cons, List.map_nil] at hl hn ⊢
    refine List.nodup_append.2 ⟨hn, by simp, fun a ha b hb => ?_⟩
    have := hl a ha
    have e1 : b = e.g := by simpa using hb
    omega
  · have := h1.sz
    have := hg.size
    have : w1.heap.size ≤ (w1.alloc o).heap.size := by simp
    omega
/-- one row of marks more -/
theorem Li.mark (h : Li B w v E ms) (x : Nat) (hx : x = ms.length % 256) (o : Obj)
    (hr : w2.ownsRow B 26 1 v' (E.length + ms.length + 1) ((E.map LE.v ++ mkV ms) ++ [.slice (some ⟨w.heap.size, 0, none⟩) 2 2])) (hg : ((w.alloc (.cells #[.int .u8 (x : Int), .int .u8 7] 5)).alloc o).grownBy w2 v.ownBlock) : Li B w2 v' E (ms ++ [w.heap.size]) := by
  obtain ⟨w1, hw1⟩ : ∃ w1, w1 = w.alloc (.cells #[.int .u8 (x : Int), .int .u8 7] 5) := ⟨_, rfl⟩
  rw [← hw1] at hg
  have k : Below w.heap.size w w1 := by rw [hw1]; exact (Below.refl _ _).alloc (Nat.le_refl _) _
  have hn1 : OwnB w1 w.heap.size (.slice (some ⟨w.heap.size, 0, none⟩) 2 2) 2 [x, 7] := by
    refine to_own ?_ (Nat.le_refl _) (by simp [toI]) (by unfold maxLen; omega)
    rw [hw1]
    show (w.heap.push _)[w.heap.size]? = _
    simp [toI]
  have h1 := h.below k
  have r1 := h1.row.alloc o
  refine ⟨by simpa [mkV, Nat.add_assoc] using hr, fun y hy => ?_, fun j g hj => ?_, ?_, ?_⟩
  · have hx2 := (h1.own y hy).alloc o
    exact hx2.kept hg (apart hx2 r1 (by decide))
  · have hj1 : OwnB w1 B (.slice (some ⟨g, 0, none⟩) 2 2) 2 [j % 256, 7] := by
      by_cases hlt : j < ms.length
      · rw [List.getElem?_append_left hlt] at hj
        exact h1.mks j g hj
      · rw [List.getElem?_append_right (by omega)] at hj
        have e0 : j = ms.length := by
          have := (List.getElem?_eq_some_iff.1 hj).1
          simp at this; omega
        subst e0
        simp at hj
        subst hj
        rw [← hx]
        exact owns_mono hn1 h.sz
    have hx2 := hj1.alloc o
    exact hx2.kept hg (apart hx2 r1 (by decide))
  · have hl := h.lt
    rw [← List.append_assoc]
    refine List.nodup_append.2 ⟨h.nd, by simp, fun a ha b hb => ?_⟩
    have := hl a ha
    have e1 : b = w.heap.size := by simpa using hb
    omega
  · have := h1.sz
    have := hg.size
    have : w1.heap.size ≤ (w1.alloc o).heap.size := by simp
    omega
end Go.Proofs.Ytbbhnekdejamiaa.Wd
