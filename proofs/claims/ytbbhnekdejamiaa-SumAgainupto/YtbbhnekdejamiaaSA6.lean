/-
  Copies of the parts in a list of their own; both lists as parts.
-/
import Derived.Test.YtbbhnekdejamiaaSA5
namespace Go.Proofs.Ytbbhnekdejamiaa.Wd
open Go.RowKit
open Ap

/-- a list of copies, made since w0 -/
structure Nw (w0 w : World) (v : Value) (ps : List Part) : Prop where
  row : w.ownsRow w0.heap.size 26 1 v ps.length (ps.map Part.val)
  own : ∀ p ∈ ps, OwnB w w0.heap.size p.val p.l.length p.l
  b256 : ∀ p ∈ ps, ∀ x ∈ p.l, x < 256
  bel : Below w0.heap.size w0 w
theorem Nw.start (w0 : World) : Nw w0 w0 (.slice none 0 0) [] := ⟨World.ownsRow_nil _ _ _ _, fun p hp => by simp at hp, fun p hp => by simp at hp, Below.refl _ _⟩
theorem Nw.push {w0 w w1 w2 : World} {v v' : Value} {ps : List Part} (h : Nw w0 w v ps) (k : Below w.heap.size w w1) (p : Part) (h256 : ∀ x ∈ p.l, x < 256) (ho : OwnB w1 w.heap.size p.val p.l.length p.l) (o : Obj)
    (hr : w2.ownsRow w0.heap.size 26 1 v' (ps.length + 1) (ps.map Part.val ++ [p.val])) (hg : (w1.alloc o).grownBy w2 v.ownBlock) : Nw w0 w2 v' (ps ++ [p]) := by
  have r0 : w1.ownsRow w0.heap.size 26 1 v ps.length (ps.map Part.val) := h.row.kept (below_grown k none) (by cases hv : v.ownBlock <;> simp)
  have r1 := r0.alloc o
  have hb1 : Below w0.heap.size w0 w1 := h.bel.trans (k.mono h.bel.size)
  refine ⟨by simpa using hr, fun x hx => ?_, fun x hx => ?_, ?_⟩
  · have hx1 : OwnB w1 w0.heap.size x.val x.l.length x.l := by
      rcases List.mem_append.1 hx with hx | hx
      · exact (h.own x hx).below k
      · have e1 : x = p := by simpa using hx
        subst e1; exact owns_mono ho h.bel.size
    have hx2 := hx1.alloc o
    exact hx2.kept hg (apart hx2 r1 (by decide))
  · rcases List.mem_append.1 hx with hx | hx
    · exact h.b256 x hx
    · have e1 : x = p := by simpa using hx
      subst e1; exact h256
  · exact (hb1.alloc hb1.size o).grown hg (by have := hb1.size; simp; omega) (fun q hq => (r1.lt q hq).1)
theorem Nw.parts {w0 w : World} {a : Option Addr} {c : Nat} {ps : List Part} (h : Nw w0 w (.slice a ps.length c) ps) : Parts w a ps := by
  refine ⟨?_, fun p hp => (h.own p hp).part (h.b256 p hp)⟩
  rcases h.row.2 with ⟨_, h0⟩ | ⟨g, cap, cur, e, _⟩
  · left
    exact List.eq_nil_of_length_eq_zero h0
  · right
    simp only [Value.slice.injEq] at e
    obtain ⟨rfl, _⟩ := e
    refine ⟨g, 0, rfl, fun i hi => ?_⟩
    have := h.row.cellAt i (by omega)
    rw [Nat.zero_add, this]
    simp [hi]
def LE.part (e : LE) : Part := ⟨some ⟨e.g, 0, none⟩, 2 * e.l.length + 70, e.l⟩
theorem LE.part_val (e : LE) : e.part.val = e.v := rfl
theorem wide_take (l : List Nat) : (wide l).take l.length = l := by
  unfold wide
  rw [List.take_append_of_le_length (Nat.le_refl _), List.take_length]
theorem Li.pok {B : Nat} {w : World} {v : Value} {E : List LE} {ms : List Nat} (h : Li B w v E ms) (hb : ∀ e ∈ E, eB e) (e : LE) (he : e ∈ E) : Part.ok w e.part := by
  have ho := h.own e he
  have hs := (owns_seg_at ho).1
  have hl : (wide e.l).length = 2 * e.l.length + 70 := ho.len
  have h1 := hs.part0 e.l.length (by rw [toI_len, hl]; omega)
  rw [toI_take, wide_take] at h1
  have := (hb e he).1
  exact ⟨h1, (hb e he).2, by show e.l.length ≤ 2 * e.l.length + 70; omega, by show 2 * e.l.length + 70 ≤ _; omega⟩
theorem Li.parts {B : Nat} {w : World} {gl N cap : Nat} {E : List LE} {ms : List Nat} (h : Li B w (.slice (some ⟨gl, 0, none⟩) N cap) E ms) (hb : ∀ e ∈ E, eB e) (hN : E.length + ms.length = N) : Parts w (some ⟨gl, 0, none⟩) (E.map LE.part) := by
  refine ⟨.inr ⟨gl, 0, rfl, fun i hi => ?_⟩, fun p hp => ?_⟩
  · have hi' : i < E.length := by simpa using hi
    have hr := h.row
    rw [hN] at hr
    have := hr.cellAt i (by omega)
    rw [Nat.zero_add, this, List.getElem?_append_left (by rw [List.length_map]; exact hi')]
    simp [hi', LE.part_val]
  · obtain ⟨e, he, rfl⟩ := List.mem_map.1 hp
    exact h.pok hb e he
theorem allB_le (ps : List Part) (M : Nat) (h : ∀ p ∈ ps, p.l.length ≤ M) : (allB ps).length ≤ ps.length * M := by
  induction ps with
  | nil => simp [allB]
  | cons p r ih =>
    have h1 := ih (fun q hq => h q (List.mem_cons_of_mem _ hq))
    have h2 := h p (List.mem_cons_self ..)
    simp only [allB, List.flatMap_cons, List.length_append, List.length_cons, Nat.succ_mul] at h1 ⊢
    omega
theorem allB_same {ps qs : List Part} (h : ps.map Part.l = qs.map Part.l) : allB ps = allB qs := by
  unfold allB
  rw [List.flatMap_def, List.flatMap_def, h]
end Go.Proofs.Ytbbhnekdejamiaa.Wd
