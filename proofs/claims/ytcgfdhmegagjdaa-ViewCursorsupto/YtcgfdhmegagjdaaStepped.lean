/-
  The statements' stepped: one call of a cursor beside the document's own.
-/
import Derived.Test.YtcgfdhmegagjdaaSide
import Derived.Test.YtcgfdhmegagjdaaOpenSteps
namespace Go.Proofs.Ytcgfdhmegagjdaa
open Go.RowKit

theorem Off.allocs {col : Nat → Nat} {c : Nat} {w w1 : World} (h : Off col c w w1) (X : Obj) : Off col c w (w1.alloc X) := h.thenB ((Below.refl _ _).alloc (Nat.le_refl _) X)
theorem Off.drews {col : Nat → Nat} {c : Nat} {w w1 : World} (h : Off col c w w1) : Off col c w w1.drew := h.thenB (Below.refl _ _).drew
theorem Side.low {w w1 : World} {col : Nat → Nat} {c B R WB : Nat} {RA : Option Addr} {wc rc : Nat} {bs : List Nat} {p : Nat} (h : Side w col c B R WB RA wc rc bs p) (k : Below w.heap.size w w1) : Side w1 col c B R WB RA wc rc bs p :=
  h.off (c' := c + 1) ((Off.refl w).thenB k) (by omega)
/-- what stepped must do -/
def StepsAs (w : World) (col : Nat → Nat) (c B R WB : Nat) (RA : Option Addr) (wc rc : Nat) (bs : List Nat) (kd obj n : Int) : Prop :=
  Calls Try.prog 29 #[.pointer (some ⟨B, 0, none⟩), .pointer (some ⟨R, 0, none⟩), .slice (some ⟨WB, 0, none⟩) (bs.length + 75) wc, .agg #[.int .i64 kd, .int .i64 obj, .int .i64 n]] w fun e w' =>
    e = .returned (.bool true) ∧ ∃ bs' p', bs'.length = bs.length ∧ Side w' col c B R WB RA wc rc bs' p' ∧ Off col c w w'

set_option maxRecDepth 100000 in
set_option maxHeartbeats 800000 in
theorem stepped_uint (w : World) (col : Nat → Nat) (c B R WB : Nat) (RA : Option Addr) (wc rc : Nat) (bs : List Nat) (p : Nat) (obj n : Int) (h : Side w col c B R WB RA wc rc bs p) : StepsAs w col c B R WB RA wc rc bs 1 obj n := by
  unfold StepsAs
  go_enter Try.func29, Try.ntmps29
  go_wp2_with fail
  obtain ⟨w0, hw0⟩ : ∃ w0, w0 = w.alloc (.cells #[.int .i64 1, .int .i64 obj, .int .i64 n] 68) := ⟨_, rfl⟩
  have hbx : Below w.heap.size w w0 := by rw [hw0]; exact (Below.refl _ _).alloc (Nat.le_refl _) _
  have k0 : w0.cell? ⟨w.heap.size, 0, none⟩ = some (.int .i64 1) := by rw [hw0]; simp [go_sem]
  have k2 : w0.cell? ⟨w.heap.size, 2, none⟩ = some (.int .i64 n) := by rw [hw0]; simp [go_sem]
  have hBs : B < w.heap.size := h.cur.lt
  have hRs : R < w.heap.size := h.ref.lt
  rw [← hw0]
  have hS := h.low hbx
  clear hw0
  refine (curUint_total B _ p n bs w0 hS.cur hS.seg hS.b256 hS.h3 hS.hp).mono ?_
  rintro e w1 ⟨rfl, hc1, hg1⟩
  have j2 : w1.cell? ⟨w.heap.size, 2, none⟩ = some (.int .i64 n) := hg1.cell k2 (by simp; omega)
  have hR1 := hS.ref.grown hg1 (by simpa using hS.d1.symm)
  have hs1 : Seg .u8 w1 RA (toI bs) := owns_seg_at (owns_kept hS.rrow hg1 (by intro b hb; have := (hS.cA b hb).2.1; simpa using this))
  go_wp2_with fail
  refine (rcurUint_total R _ rc p n bs w1 hR1 hs1 hS.b256 hS.h3 hS.hp).mono ?_
  rintro e w2 ⟨rfl, hc2, hg2⟩
  have hm := hS.moved _ (np_le hS.hp (fun e => by have := (uE_zero _ _ _).1 e; omega)) hg1 hc1 hg2 hc2
  go_wp2_with (first | (go_at_call 9; refine (num_any _ _).mono ?_; rintro e w' ⟨rfl, rfl⟩))
  go_ret
  exact ⟨by simp, bs, _, rfl, hm.1, ((Off.refl w).thenB hbx).trans hm.2⟩

theorem wB_256 (bs : List Nat) (p : Nat) (n : Int) (h : ∀ x ∈ bs, x < 256) : ∀ x ∈ wB bs p n, x < 256 := by
  unfold wB
  split
  · exact fun x hx => h x (List.mem_of_mem_drop (List.mem_of_mem_take hx))
  · intro x hx; cases hx
set_option maxRecDepth 100000 in
set_option maxHeartbeats 800000 in
theorem stepped_window (w : World) (col : Nat → Nat) (c B R WB : Nat) (RA : Option Addr) (wc rc : Nat) (bs : List Nat) (p : Nat) (obj n : Int) (h : Side w col c B R WB RA wc rc bs p) (hn : n ≤ 9223372036854775807) : StepsAs w col c B R WB RA wc rc bs 2 obj n := by
  unfold StepsAs
  go_enter Try.func29, Try.ntmps29
  go_wp2_with fail
  obtain ⟨w0, hw0⟩ : ∃ w0, w0 = w.alloc (.cells #[.int .i64 2, .int .i64 obj, .int .i64 n] 68) := ⟨_, rfl⟩
  have hbx : Below w.heap.size w w0 := by rw [hw0]; exact (Below.refl _ _).alloc (Nat.le_refl _) _
  have k0 : w0.cell? ⟨w.heap.size, 0, none⟩ = some (.int .i64 2) := by rw [hw0]; simp [go_sem]
  have k2 : w0.cell? ⟨w.heap.size, 2, none⟩ = some (.int .i64 n) := by rw [hw0]; simp [go_sem]
  have hBs : B < w.heap.size := h.cur.lt
  have hRs : R < w.heap.size := h.ref.lt
  rw [← hw0]
  have hS := h.low hbx
  clear hw0
  refine (curWindow_total B _ p n bs w0 hS.cur hS.h3 hS.hp hn).mono ?_
  rintro e w1 ⟨xa, rfl, hxs, hc1, hg1⟩
  have j2 : w1.cell? ⟨w.heap.size, 2, none⟩ = some (.int .i64 n) := hg1.cell k2 (by simp; omega)
  have hR1 := hS.ref.grown hg1 (by simpa using hS.d1.symm)
  have hs1 : Seg .u8 w1 RA (toI bs) := owns_seg_at (owns_kept hS.rrow hg1 (by intro b hb; have := (hS.cA b hb).2.1; simpa using this))
  go_wp2_with fail
  refine (rcurWindow_total R _ rc p n bs w1 hR1 hs1 hS.h3 hS.hp).mono ?_
  rintro e w2 ⟨v, rfl, hov, hc2, hg2⟩
  have hm := hS.moved _ (np_le hS.hp (fun e => by have := (wE_zero _ _ _).1 e; omega)) hg1 hc1 hg2 hc2
  obtain ⟨va, vc, rfl, hvs, hvl, _, _⟩ := owns_seg hov
  have hz := same_any xa va (wB bs p n).length vc (wB bs p n) (wB bs p n) w2 (hxs w2 hm.1.seg) hvs (wB_256 _ _ _ hS.b256) (wB_256 _ _ _ hS.b256)
  rw [decide_eq_true rfl] at hz
  have HZ : Hid _ := hz
  have HM : Hid (Side w2 col c B R WB RA wc rc bs (np (wE bs.length p n) p n) ∧ Off col c w0 w2) := hm
  clear hz hm hvl hc1 hc2 hR1
  go_wp2_with fail
  refine Calls.mono HZ.out ?_
  rintro e w' ⟨rfl, rfl⟩
  go_wp2_with (first | (go_at_call 9; refine (num_any _ _).mono ?_; rintro e w' ⟨rfl, rfl⟩))
  go_ret
  exact ⟨by simp, bs, _, rfl, HM.out.1, ((Off.refl w).thenB hbx).trans HM.out.2⟩

set_option maxRecDepth 100000 in
set_option maxHeartbeats 800000 in
theorem stepped_skip (w : World) (col : Nat → Nat) (c B R WB : Nat) (RA : Option Addr) (wc rc : Nat) (bs : List Nat) (p : Nat) (obj n : Int) (h : Side w col c B R WB RA wc rc bs p) (hn : n ≤ 9223372036854775807) : StepsAs w col c B R WB RA wc rc bs 3 obj n := by
  unfold StepsAs
  go_enter Try.func29, Try.ntmps29
  go_wp2_with fail
  obtain ⟨w0, hw0⟩ : ∃ w0, w0 = w.alloc (.cells #[.int .i64 3, .int .i64 obj, .int .i64 n] 68) := ⟨_, rfl⟩
  have hbx : Below w.heap.size w w0 := by rw [hw0]; exact (Below.refl _ _).alloc (Nat.le_refl _) _
  have k0 : w0.cell? ⟨w.heap.size, 0, none⟩ = some (.int .i64 3) := by rw [hw0]; simp [go_sem]
  have k2 : w0.cell? ⟨w.heap.size, 2, none⟩ = some (.int .i64 n) := by rw [hw0]; simp [go_sem]
  have hBs : B < w.heap.size := h.cur.lt
  have hRs : R < w.heap.size := h.ref.lt
  rw [← hw0]
  have hS := h.low hbx
  clear hw0
  refine (curSkip_total B _ bs.length p n w0 hS.cur hS.h3 hS.hp hn).mono ?_
  rintro e w1 ⟨rfl, hc1, hg1⟩
  have j2 : w1.cell? ⟨w.heap.size, 2, none⟩ = some (.int .i64 n) := hg1.cell k2 (by simp; omega)
  have hR1 := hS.ref.grown hg1 (by simpa using hS.d1.symm)
  have hs1 : Seg .u8 w1 RA (toI bs) := owns_seg_at (owns_kept hS.rrow hg1 (by intro b hb; have := (hS.cA b hb).2.1; simpa using this))
  go_wp2_with fail
  refine (rcurSkip_total R _ rc p n bs w1 hR1 hs1 hS.h3 hS.hp).mono ?_
  rintro e w2 ⟨rfl, hc2, hg2⟩
  have hm := hS.moved _ (np_le hS.hp (fun e => by have := (wE_zero _ _ _).1 e; omega)) hg1 hc1 hg2 hc2
  go_wp2_with (first | (go_at_call 9; refine (num_any _ _).mono ?_; rintro e w' ⟨rfl, rfl⟩))
  go_ret
  exact ⟨by simp, bs, _, rfl, hm.1, ((Off.refl w).thenB hbx).trans hm.2⟩

set_option maxRecDepth 100000 in
set_option maxHeartbeats 800000 in
theorem stepped_left (w : World) (col : Nat → Nat) (c B R WB : Nat) (RA : Option Addr) (wc rc : Nat) (bs : List Nat) (p : Nat) (obj n : Int) (h : Side w col c B R WB RA wc rc bs p) : StepsAs w col c B R WB RA wc rc bs 4 obj n := by
  unfold StepsAs
  go_enter Try.func29, Try.ntmps29
  go_wp2_with fail
  obtain ⟨w0, hw0⟩ : ∃ w0, w0 = w.alloc (.cells #[.int .i64 4, .int .i64 obj, .int .i64 n] 68) := ⟨_, rfl⟩
  have hbx : Below w.heap.size w w0 := by rw [hw0]; exact (Below.refl _ _).alloc (Nat.le_refl _) _
  have k0 : w0.cell? ⟨w.heap.size, 0, none⟩ = some (.int .i64 4) := by rw [hw0]; simp [go_sem]
  have k2 : w0.cell? ⟨w.heap.size, 2, none⟩ = some (.int .i64 n) := by rw [hw0]; simp [go_sem]
  have hBs : B < w.heap.size := h.cur.lt
  have hRs : R < w.heap.size := h.ref.lt
  rw [← hw0]
  have hS := h.low hbx
  clear hw0
  refine (curLeft_any B _ bs.length p w0 hS.cur hS.h3 hS.hp).mono ?_
  rintro e w1 ⟨rfl, hb1⟩
  have hS1 := hS.low hb1
  have r0 := hS1.ref.c0
  have r1 := hS1.ref.c1
  have h3 := hS.h3
  have hp := hS.hp
  go_wp2
  try go_region
  all_goals
    go_wp2
    go_ret
    exact ⟨by simp, bs, p, rfl, hS1.low (Below.refl _ _).drew, (((Off.refl w).thenB hbx).thenB hb1).drews⟩

set_option maxRecDepth 100000 in
set_option maxHeartbeats 800000 in
theorem stepped_place (w : World) (col : Nat → Nat) (c B R WB : Nat) (RA : Option Addr) (wc rc : Nat) (bs : List Nat) (p : Nat) (obj n : Int) (h : Side w col c B R WB RA wc rc bs p) : StepsAs w col c B R WB RA wc rc bs 5 obj n := by
  unfold StepsAs
  go_enter Try.func29, Try.ntmps29
  go_wp2_with fail
  obtain ⟨w0, hw0⟩ : ∃ w0, w0 = w.alloc (.cells #[.int .i64 5, .int .i64 obj, .int .i64 n] 68) := ⟨_, rfl⟩
  have hbx : Below w.heap.size w w0 := by rw [hw0]; exact (Below.refl _ _).alloc (Nat.le_refl _) _
  have k0 : w0.cell? ⟨w.heap.size, 0, none⟩ = some (.int .i64 5) := by rw [hw0]; simp [go_sem]
  have k2 : w0.cell? ⟨w.heap.size, 2, none⟩ = some (.int .i64 n) := by rw [hw0]; simp [go_sem]
  have hBs : B < w.heap.size := h.cur.lt
  have hRs : R < w.heap.size := h.ref.lt
  rw [← hw0]
  have hS := h.low hbx
  clear hw0
  refine (curPlace_any B _ bs.length p w0 hS.cur).mono ?_
  rintro e w1 ⟨rfl, rfl⟩
  have r1 := hS.ref.c1
  go_wp2
  go_ret
  exact ⟨by simp, bs, p, rfl, hS, (Off.refl w).thenB hbx⟩

set_option maxRecDepth 100000 in
set_option maxHeartbeats 800000 in
theorem stepped_other (w : World) (col : Nat → Nat) (c B R WB : Nat) (RA : Option Addr) (wc rc : Nat) (bs : List Nat) (p : Nat) (kd obj n : Int) (h : Side w col c B R WB RA wc rc bs p)
    (h1 : (kd == 1) = false) (h2 : (kd == 2) = false) (h3 : (kd == 3) = false) (h4 : (kd == 4) = false) (h5 : (kd == 5) = false) (h6 : (kd == 6) = false) : StepsAs w col c B R WB RA wc rc bs kd obj n := by
  unfold StepsAs
  have hB : ∀ X, Below w.heap.size w (w.alloc X) := fun X => (Below.refl _ _).alloc (Nat.le_refl _) X
  go_enter Try.func29, Try.ntmps29
  go_wp2
  go_ret
  exact ⟨rfl, bs, p, rfl, h.low (hB _), (Off.refl w).allocs _⟩
end Go.Proofs.Ytcgfdhmegagjdaa
