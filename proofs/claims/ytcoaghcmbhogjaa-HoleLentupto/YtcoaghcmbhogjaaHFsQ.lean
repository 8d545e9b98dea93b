/-
  HoleFirst: one row of the taken list, and the byte that stands.
-/
import Derived.Test.YtcoaghcmbhogjaaHFsM
namespace Go.Proofs.Ytcoaghcmbhogjaa
open Go.RowKit Go.Maps
namespace H11
theorem yields_u8 {ops : Array Oper} {o : Oper} {a : Act} {S : World → Prop} (x : Operand) (ho : o.op = .load 5 x) (p : Addr) (u : Value) (hx : a.eval x = .pointer (some p)) (hw : Region.wanted o (yielded ops a.tmps) = true) (hS : ∀ w, S w → w.cell? p = some u) : YieldsIf Try.prog ops S o u a := by
  refine .inl ⟨hw, fun w hb => ?_⟩
  have hc := hS w hb
  have hu := Try.underlying5
  obtain ⟨dst, op, type, pos, after, guard⟩ := o
  simp only at ho
  subst ho
  simp only [execOp, Sem.run_bind, Sem.run_pure]
  rw [hx]
  simp [Instr.loadAt, go_sem, hc]
theorem tv_row {w : World} {base n c : Nat} {ua : Option Addr} {L : List TV} (h : w.ownsRow base 37 3 (.slice ua n c) L.length (tvC L)) (hn : n = L.length) (j : Nat) (hj : j < L.length) : ∃ g, ua = some ⟨g, 0, none⟩ ∧ w.cell? ⟨g, j * 3, none⟩ = some (.int .i64 (L[j].tp.o : Int)) ∧ w.cell? ⟨g, j * 3 + 1, none⟩ = some (.slice L[j].a L[j].tp.d.length L[j].c) := by
  subst hn
  rcases h.2 with ⟨_, e2⟩ | ⟨g, cap, cur, e1, _⟩
  · omega
  · simp only [Value.slice.injEq, true_and] at e1
    obtain ⟨rfl, rfl⟩ := e1
    have h0 := tvC_at L j 0 hj (by omega)
    have h1 := tvC_at L j 1 hj (by omega)
    have c0 := h.cells (g := g) rfl (j * 3 + 0) _ h0
    have c1 := h.cells (g := g) rfl (j * 3 + 1) _ h1
    rw [Addr.add_lit] at c0 c1
    simp only [Nat.zero_add, Nat.add_zero] at c0 c1
    exact ⟨g, rfl, c0, c1⟩
/-- the first piece that covers the place -/
theorem FSt.at {L : List TV} {s : HS} (h : FSt (L.map TV.tp) s) (i j : Nat) (hj : j < L.length) (hc : ∀ p, p ∈ L.take j → p.tp.cov i = false) (ht : L[j].tp.cov i = true) : s.bs.getD i 0 = L[j].tp.d.getD (i - L[j].tp.o) 0 := by
  refine h.first i _ ?_
  have e0 : L.map TV.tp = (L.take j).map TV.tp ++ (L.drop j).map TV.tp := by rw [← List.map_append, List.take_append_drop]
  rw [e0, List.find?_append]
  have e1 : (List.map TV.tp (L.take j)).find? (fun p => p.cov i) = none := by
    rw [List.find?_eq_none]
    intro p hp
    obtain ⟨t, q1, rfl⟩ := List.mem_map.1 hp
    simp [hc t q1]
  rw [e1, List.drop_eq_getElem_cons hj]
  simp only [List.map_cons, List.find?_cons, Option.none_or]
  rw [ht]
/-- one is there -/
theorem FSt.there {L : List TV} {s : HS} (h : FSt (L.map TV.tp) s) (hw : 0 < s.en ∧ s.gp = []) (i : Nat) (hi : i < s.en) (j : Nat) (hc : ∀ p, p ∈ L.take j → p.tp.cov i = false) : j < L.length := by
  apply Classical.byContradiction
  intro c
  obtain ⟨p, q1, _⟩ := h.whole hw i hi
  obtain ⟨t, ht, rfl⟩ := List.mem_map.1 (List.mem_of_find?_eq_some q1)
  have h1 := hc t (by rw [List.take_of_length_le (by omega)]; exact ht)
  have h2 := List.find?_some (p := fun p : TP => p.cov i) q1
  rw [h1] at h2
  simp at h2
theorem take_next {L : List TV} {j i : Nat} (hj : j < L.length) (hc : ∀ p, p ∈ L.take j → p.tp.cov i = false) (ht : L[j].tp.cov i = false) : ∀ p, p ∈ L.take (j + 1) → p.tp.cov i = false := by
  intro p hp
  rw [List.take_succ_eq_append_getElem hj] at hp
  rcases List.mem_append.1 hp with q | q
  · exact hc p q
  · rw [List.mem_singleton.1 q]; exact ht
end H11
end Go.Proofs.Ytcoaghcmbhogjaa
