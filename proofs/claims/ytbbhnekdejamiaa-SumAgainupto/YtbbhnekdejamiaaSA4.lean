/-
  The statements' own turned: what it leaves of the list.
-/
import Derived.Test.YtbbhnekdejamiaaSA3
namespace Go.Proofs.Ytbbhnekdejamiaa.Wd
open Go.RowKit
open Ap

abbrev lV (gl cap n : Nat) : Value := .slice (some ⟨gl, 0, none⟩) (n + (n + 9)) cap
structure Ln (B : Nat) (w0 w : World) (gl cap n : Nat) (E : List LE) (ms : List Nat) : Prop where
  row : w.ownsRow B 26 1 (lV gl cap n) (n + (n + 9)) (E.map LE.v ++ mkV ms)
  own : ∀ e ∈ E, OwnB w B (.slice (some ⟨e.g, 0, none⟩) (2 * e.l.length + 70) (2 * e.l.length + 70)) (2 * e.l.length + 70) (wide e.l)
  mks : ∀ j g, ms[j]? = some g → OwnB w B (.slice (some ⟨g, 0, none⟩) 2 2) 2 [j % 256, 7]
  len : E.length = n
  lem : ms.length = n + 9
  sz : B ≤ w.heap.size
  bel : Below B w0 w
variable {B : Nat} {w0 w w1 : World} {gl cap n : Nat} {E : List LE} {ms : List Nat}
theorem Ln.of (h : Li B w (lV gl cap n) E ms) (hE : E.length = n) (hm : ms.length = n + 9) : Ln B w w gl cap n E ms := by
  have r := h.row
  rw [hE, hm] at r
  exact ⟨r, h.own, h.mks, hE, hm, h.sz, Below.refl _ _⟩
theorem Ln.li (h : Ln B w0 w gl cap n E ms) (hn : (E.map LE.g ++ ms).Nodup) : Li B w (lV gl cap n) E ms :=
  ⟨by rw [h.len, h.lem]; exact h.row, h.own, h.mks, hn, h.sz⟩
theorem Ln.below (h : Ln B w0 w gl cap n E ms) (k : Below w.heap.size w w1) : Ln B w0 w1 gl cap n E ms :=
  ⟨h.row.kept (below_grown k none) (by cases hv : (lV gl cap n).ownBlock <;> simp), fun e he => (h.own e he).below k, fun j g hj => (h.mks j g hj).below k, h.len, h.lem, Nat.le_trans h.sz k.size, h.bel.trans (k.mono h.sz)⟩
/-- another part at the place i -/
theorem Ln.put (h : Ln B w0 w gl cap n E ms) (i : Nat) (hi : i < n) (e : LE) (he : e ∈ E ∨ OwnB w B (.slice (some ⟨e.g, 0, none⟩) (2 * e.l.length + 70) (2 * e.l.length + 70)) (2 * e.l.length + 70) (wide e.l)) : Ln B w0 (w.setCell ⟨gl, i, none⟩ e.v) gl cap n (E.set i e) ms := by
  have st := h.row.stored i e.v
  have hgB : B ≤ gl := (h.row.lt gl rfl).1
  have e1 : (E.map LE.v ++ mkV ms).set i e.v = (E.set i e).map LE.v ++ mkV ms := by
    rw [List.set_append_left _ _ (by rw [List.length_map, h.len]; exact hi), List.map_set]
  have hoe : OwnB w B (.slice (some ⟨e.g, 0, none⟩) (2 * e.l.length + 70) (2 * e.l.length + 70)) (2 * e.l.length + 70) (wide e.l) := he.elim (h.own e) id
  have r := st.1
  rw [e1] at r
  refine ⟨r, fun x hx => ?_, fun j g hj => (h.mks j g hj).kept st.2 (apart (h.mks j g hj) h.row (by decide)), by rw [List.length_set]; exact h.len, h.lem, Nat.le_trans h.sz st.2.size, h.bel.setCell hgB _⟩
  have hx1 : OwnB w B (.slice (some ⟨x.g, 0, none⟩) (2 * x.l.length + 70) (2 * x.l.length + 70)) (2 * x.l.length + 70) (wide x.l) := by
    rcases List.mem_or_eq_of_mem_set hx with hx | hx
    · exact h.own x hx
    · rw [hx]; exact hoe
  exact hx1.kept st.2 (apart hx1 h.row (by decide))
theorem set_same {α : Type} (l : List α) (i : Nat) (h : i < l.length) (x : α) (hx : l[i] = x) : l.set i x = l := by subst hx; simp
theorem wide_put (l : List Nat) (q x : Nat) (hq : q < l.length) : (wide l).set q x = wide (l.set q x) := by
  unfold wide
  rw [List.set_append_left _ _ hq, List.length_set]
/-- another byte in the part at the place i -/
theorem Ln.byte (h : Ln B w0 w gl cap n E ms) (hn : (E.map LE.g ++ ms).Nodup) (i : Nat) (hi : i < E.length) (q x : Nat) (hq : q < E[i].l.length) : Ln B w0 (w.setCell ⟨E[i].g, q, none⟩ (.int .u8 (x : Int))) gl cap n (E.set i ⟨E[i].g, E[i].l.set q x⟩) ms := by
  obtain ⟨e, he⟩ : ∃ e, e = E[i] := ⟨_, rfl⟩
  rw [← he] at hq ⊢
  have hem : e ∈ E := by rw [he]; exact List.getElem_mem _
  have ho := h.own e hem
  have st := ho.stored q (.int .u8 (x : Int))
  rw [toI_set2, wide_put _ _ _ hq] at st
  have hgB : B ≤ e.g := (ho.lt e.g rfl).1
  obtain ⟨n1, n2, n3⟩ := List.nodup_append.1 hn
  have e1 : (E.set i ⟨e.g, e.l.set q x⟩).map LE.v = E.map LE.v := by
    rw [List.map_set]
    have : LE.v ⟨e.g, e.l.set q x⟩ = e.v := by simp [LE.v]
    rw [this]
    exact set_same _ i (by simpa using hi) _ (by rw [List.getElem_map, he])
  refine ⟨by rw [e1]; exact h.row.kept st.2 (apart h.row ho (by decide)), fun y hy => ?_, fun j g hj => (h.mks j g hj).kept st.2 (.inr (fun e2 => ?_)), by rw [List.length_set]; exact h.len, h.lem, Nat.le_trans h.sz st.2.size, h.bel.setCell hgB _⟩
  · obtain ⟨j, hj, hjy⟩ := List.getElem_of_mem hy
    by_cases hji : j = i
    · subst hji
      rw [List.getElem_set_self] at hjy
      rw [← hjy]
      simp only [List.length_set]
      exact st.1
    · rw [List.getElem_set_ne (fun e => hji e.symm)] at hjy
      rw [List.length_set] at hj
      have hyE : y ∈ E := by rw [← hjy]; exact List.getElem_mem _
      refine (h.own y hyE).kept st.2 (.inr (fun e2 => ?_))
      have e3 : y.g = e.g := by simpa [Value.ownBlock] using e2
      have e5 : (E.map LE.g)[j]'(by simpa using hj) = (E.map LE.g)[i]'(by simpa using hi) := by rw [List.getElem_map, List.getElem_map, hjy, ← he, e3]
      exact hji ((List.getElem_inj n1).1 e5)
  · have e3 : g = e.g := by simpa [Value.ownBlock] using e2
    exact n3 e.g (List.mem_map.2 ⟨e, hem, rfl⟩) g (List.mem_of_getElem? hj) e3.symm
theorem byte_nd (hn : (E.map LE.g ++ ms).Nodup) (i : Nat) (hi : i < E.length) (l : List Nat) : ((E.set i ⟨E[i].g, l⟩).map LE.g ++ ms).Nodup := by
  have e : (E.set i ⟨E[i].g, l⟩).map LE.g = E.map LE.g := by
    rw [List.map_set]
    exact set_same _ i (by simpa using hi) _ (by rw [List.getElem_map])
  rw [e]; exact hn
theorem swap_nd (hn : (E.map LE.g ++ ms).Nodup) (i j : Nat) (hi : i < E.length) (hj : j < E.length) : (((E.set i E[j]).set j E[i]).map LE.g ++ ms).Nodup := by
  have p : ((E.set i E[j]).set j E[i]).Perm E := List.set_set_perm hi hj
  exact ((p.map LE.g).append_right ms).nodup_iff.2 hn
end Go.Proofs.Ytbbhnekdejamiaa.Wd
