/-
  The statements' stepped: the bytes under the cursor are written into.
-/
import Derived.Test.YtcgfdhmegagjdaaStepped
namespace Go.Proofs.Ytcgfdhmegagjdaa
open Go.RowKit

theorem u8_up (x : Nat) : ∃ y : Nat, y < 256 ∧ IntKind.u8.wrap ((x : Int) + 1) = (y : Int) := by
  refine ⟨(x + 1) % 256, Nat.mod_lt _ (by decide), ?_⟩
  rw [IntKind.wrap_u8]
  omega
theorem set_map (k : IntKind) (bs : List Nat) (m y : Nat) : ((toI bs).map (Value.int k)).set m (.int k (y : Int)) = (toI (bs.set m y)).map (Value.int k) := by
  simp [toI, List.map_set]
theorem set_left (bs ys : List Nat) (m y : Nat) (h : m < bs.length) : (bs ++ ys).set m y = bs.set m y ++ ys := List.set_append_left _ _ h
theorem Side.turned {w : World} {col : Nat → Nat} {c B R WB g : Nat} {wc rc : Nat} {bs : List Nat} {p : Nat} (h : Side w col c B R WB (some ⟨g, 0, none⟩) wc rc bs p) (m y : Nat) (hm : m < bs.length) (hy : y < 256) :
    Side ((w.setCell ⟨WB, m, none⟩ (.int .u8 (y : Int))).setCell ⟨g, m, none⟩ (.int .u8 (y : Int))) col c B R WB (some ⟨g, 0, none⟩) wc rc (bs.set m y) p ∧ Off col c w ((w.setCell ⟨WB, m, none⟩ (.int .u8 (y : Int))).setCell ⟨g, m, none⟩ (.int .u8 (y : Int))) := by
  obtain ⟨hgc, hgB, hgR, hgW⟩ := h.cA g rfl
  obtain ⟨a1, g1⟩ := h.wide.stored m (.int .u8 (y : Int))
  have r1 := owns_kept h.rrow g1 (by intro b hb; have e : b = g := own_wide hb; subst e; simpa using hgW)
  obtain ⟨r2, g2⟩ := r1.stored m (.int .u8 (y : Int))
  have a2 := owns_kept a1 g2 (by intro b hb; have e : b = WB := own_wide hb; subst e; simpa using hgW.symm)
  have hl : (bs.set m y).length = bs.length := by simp
  rw [set_map, set_left _ _ _ _ hm] at a2
  rw [set_map] at r2
  refine ⟨⟨?_, ?_, ?_, ?_, ?_, ?_, ?_, h.cB, h.cR, h.cW, ?_, h.d1, h.d2, h.d3⟩, (Off.one g1 h.cW).then g2 hgc⟩
  · rw [hl]; exact (h.cur.grown g1 (by simpa using h.d2)).grown g2 (by simpa using hgB.symm)
  · rw [hl]; exact (h.ref.grown g1 (by simpa using h.d3)).grown g2 (by simpa using hgR.symm)
  · rw [hl]; exact a2
  · rw [hl]; exact r2
  · intro x hx
    rcases List.mem_or_eq_of_mem_set hx with hx | hx
    · exact h.b256 x hx
    · subst hx; exact hy
  · rw [hl]; exact h.hp
  · rw [hl]; exact h.h3
  · rw [hl]; exact h.cA

set_option maxRecDepth 100000 in
set_option maxHeartbeats 800000 in
theorem stepped_turn (w : World) (col : Nat → Nat) (c B R WB : Nat) (RA : Option Addr) (wc rc : Nat) (bs : List Nat) (p : Nat) (obj n : Int) (h : Side w col c B R WB RA wc rc bs p) (hn : n ≤ 9223372036854775807) : StepsAs w col c B R WB RA wc rc bs 6 obj n := by
  have hB : ∀ X, Below w.heap.size w (w.alloc X) := fun X => (Below.refl _ _).alloc (Nat.le_refl _) X
  have r0 := h.ref.c0
  have hRlt := h.ref.lt
  have r0' : ∀ X, (w.alloc X).cell? ⟨R, 0, none⟩ = some (.slice RA bs.length rc) := fun X => ((hB X).cell hRlt).trans r0
  unfold StepsAs
  by_cases h0 : 0 ≤ n
  · by_cases h1 : n < bs.length
    · obtain ⟨m, rfl⟩ : ∃ m : Nat, n = (m : Int) := ⟨n.toNat, by omega⟩
      have hm : m < bs.length := by omega
      obtain ⟨g, rfl⟩ : ∃ g, RA = some ⟨g, 0, none⟩ := by
        rcases h.rrow.2 with ⟨e, e2⟩ | ⟨g, cap, cur, e, _⟩
        · omega
        · simp only [Value.slice.injEq] at e; exact ⟨g, e.1⟩
      obtain ⟨w0, hw0⟩ : ∃ w0, w0 = (w.alloc (.cells #[.int .i64 6, .int .i64 obj, .int .i64 m] 68)).drew := ⟨_, rfl⟩
      have hbx : Below w.heap.size w w0 := by rw [hw0]; exact (hB _).drew
      have k2 : w0.cell? ⟨w.heap.size, 2, none⟩ = some (.int .i64 m) := by rw [hw0]; simp [go_sem]
      have hS := h.low hbx
      obtain ⟨hgc, hgB, hgR, hgW⟩ := hS.cA g rfl
      have s0 := hS.ref.c0
      have hRW := hS.d3
      have cw : w0.cell? ⟨WB, m, none⟩ = some (.int .u8 ((bs.getD m 0 : Nat) : Int)) := by
        have := hS.wide.cellAt m (by omega)
        rw [this]
        simp [toI, List.getD, hm, List.getElem?_append_left]
      have cg : w0.cell? ⟨g, m, none⟩ = some (.int .u8 ((bs.getD m 0 : Nat) : Int)) := by
        have := hS.rrow.cellAt m (by omega)
        rw [this]
        simp [toI, List.getD, hm]
      have fw := hS.wide.frozenAt m
      have fg := hS.rrow.frozenAt m
      have hWs : WB < w0.heap.size := (hS.wide.lt WB rfl).2
      have hWw : WB < w.heap.size := (h.wide.lt WB rfl).2
      obtain ⟨x, hx⟩ : ∃ x, x = bs.getD m 0 := ⟨_, rfl⟩
      rw [← hx] at cw cg
      obtain ⟨y, hy, hxy⟩ := u8_up x
      have HT := hS.turned m y hm hy
      have t1 : (w0.setCell ⟨WB, m, none⟩ (.int .u8 (y : Int))).cell? ⟨WB, m, none⟩ = some (.int .u8 (y : Int)) := World.cell?_setCell_same _ _ _ cw
      have t2 : (w0.setCell ⟨WB, m, none⟩ (.int .u8 (y : Int))).cell? ⟨R, 0, none⟩ = some (.slice (some ⟨g, 0, none⟩) bs.length rc) := by
        rw [World.cell?_setCell_other _ _ _ _ (by simp only [ne_eq, Addr.mk.injEq, not_and]; intro e; exact absurd e.symm hRW)]; exact s0
      have t3 : (w0.setCell ⟨WB, m, none⟩ (.int .u8 (y : Int))).cell? ⟨w.heap.size, 2, none⟩ = some (.int .i64 m) := by
        rw [World.cell?_setCell_other _ _ _ _ (by simp only [ne_eq, Addr.mk.injEq, not_and]; intro e; omega)]; exact k2
      have t4 : (w0.setCell ⟨WB, m, none⟩ (.int .u8 (y : Int))).cell? ⟨g, m, none⟩ = some (.int .u8 (x : Int)) := by
        rw [World.cell?_setCell_other _ _ _ _ (by simp only [ne_eq, Addr.mk.injEq, not_and]; intro e; exact absurd e.symm hgW)]; exact cg
      have t5 : (w0.setCell ⟨WB, m, none⟩ (.int .u8 (y : Int))).frozen? ⟨g, m, none⟩ = false := by rw [World.frozen?_setCell]; exact fg
      have HX : Hid (x = bs.getD m 0) := hx
      have HTT : Hid _ := HT
      clear hx HT hy
      go_enter Try.func29, Try.ntmps29
      go_wp2
      go_region
      rw [← hw0]
      clear hw0
      go_wp2
      go_region
      go_wp2
      go_region
      go_wp2
      go_ret
      exact ⟨rfl, bs.set m y, p, by simp, (HTT.out.1.low (Below.refl _ _).drew).low (Below.refl _ _).drew, (((Off.refl w).thenB hbx).trans HTT.out.2).drews.drews⟩
    · have hd : decide (n < (bs.length : Int)) = false := by simpa using h1
      go_enter Try.func29, Try.ntmps29
      go_wp2
      go_region
      go_wp2
      go_ret
      exact ⟨rfl, bs, p, rfl, h.low (hB _).drew, ((Off.refl w).allocs _).drews⟩
  · have hd : decide (0 ≤ n) = false := by simpa using h0
    go_enter Try.func29, Try.ntmps29
    go_wp2
    try go_region
    go_wp2
    go_ret
    exact ⟨rfl, bs, p, rfl, h.low (hB _).drew, ((Off.refl w).allocs _).drews⟩
theorem stepped_any (w : World) (col : Nat → Nat) (c B R WB : Nat) (RA : Option Addr) (wc rc : Nat) (bs : List Nat) (p : Nat) (kd obj n : Int) (h : Side w col c B R WB RA wc rc bs p) (hn : n ≤ 9223372036854775807) : StepsAs w col c B R WB RA wc rc bs kd obj n := by
  by_cases h1 : kd = 1
  · subst h1; exact stepped_uint w col c B R WB RA wc rc bs p obj n h
  by_cases h2 : kd = 2
  · subst h2; exact stepped_window w col c B R WB RA wc rc bs p obj n h hn
  by_cases h3 : kd = 3
  · subst h3; exact stepped_skip w col c B R WB RA wc rc bs p obj n h hn
  by_cases h4 : kd = 4
  · subst h4; exact stepped_left w col c B R WB RA wc rc bs p obj n h
  by_cases h5 : kd = 5
  · subst h5; exact stepped_place w col c B R WB RA wc rc bs p obj n h
  by_cases h6 : kd = 6
  · subst h6; exact stepped_turn w col c B R WB RA wc rc bs p obj n h hn
  exact stepped_other w col c B R WB RA wc rc bs p kd obj n h (beq_eq_false_iff_ne.2 h1) (beq_eq_false_iff_ne.2 h2) (beq_eq_false_iff_ne.2 h3) (beq_eq_false_iff_ne.2 h4) (beq_eq_false_iff_ne.2 h5) (beq_eq_false_iff_ne.2 h6)
end Go.Proofs.Ytcgfdhmegagjdaa
