/-
  The statements' plays: where the look's answer is the document's, what was handed in, and the room behind it, stays.
-/
import Derived.Test.YtebpaolniemfgabAnswered
namespace Go.Proofs.Ytebpaolniemfgab
open Go.RowKit

theorem room256 {bs : List Nat} (h : ∀ x ∈ bs, x < 256) : ∀ x ∈ bs ++ marks 75, x < 256 := by
  intro x hx
  rcases List.mem_append.1 hx with hx | hx
  · exact h x hx
  · exact marks_lt 75 x hx

set_option maxRecDepth 100000 in
set_option maxHeartbeats 1600000 in
theorem plays_any (kd at' n : Int) (ba wa va : Option Addr) (bl bc wl wc vl vc : Nat) (bs : List Nat) (ws vs : List Int) (w : World)
    (hbl : bs.length = bl) (hb : Seg .u8 w ba (toI bs)) (h256 : ∀ x ∈ bs, x < 256) (hb2 : bl ≤ 1048576)
    (hwl : ws.length = wl) (hw : Seg .i64 w wa ws) (hw2 : wl ≤ 1048576) (hvl : vs.length = vl) (hv : Seg .i64 w va vs) (hv2 : vl ≤ 1048576)
    (hA : Hid (∀ (W : World) (xa ya za : Option Addr) (xc yc zc : Nat), Seg .u8 W xa (toI bs) → bl ≤ xc → xc ≤ 9223372036854775807 → Seg .i64 W ya ws → Seg .i64 W za vs →
      Calls Try.prog 25 #[.agg #[.int .i64 kd, .slice xa bl xc, .int .i64 at', .int .i64 n, .slice ya wl yc, .slice za vl zc]] W fun e w' => e = .returned (.bool true) ∧ Below W.heap.size W w')) :
    Calls Try.prog 44 #[.agg #[.int .i64 kd, .slice ba bl bc, .int .i64 at', .int .i64 n, .slice wa wl wc, .slice va vl vc]] w fun e w' => e = .returned (.bool true) ∧ Below w.heap.size w w' := by
  have hB : ∀ X, Below w.heap.size w (w.alloc X) := fun X => (Below.refl _ _).alloc (Nat.le_refl _) X
  have HBL : Hid (bs.length = bl) := hbl
  have HWL : Hid (ws.length = wl) := hwl
  have HVL : Hid (vs.length = vl) := hvl
  clear hbl hwl hvl
  go_enter Try.func44, Try.ntmps44
  go_wp2_with fail
  refine (roomy_any ba bl bc bs _ HBL.out (hb.old (hB _)) (by omega)).mono ?_
  rintro e w1 ⟨v1, rfl, ho1, hb1⟩
  obtain ⟨a1, c1, rfl, hs1, _, hc1, hm1⟩ := owns_seg ho1
  have q4 := boxed hb1 4
  simp only [List.getElem?_toArray, List.getElem?_cons_succ, List.getElem?_cons_zero] at q4
  have hB1 : Below w.heap.size w w1 := (hB _).trans (hb1.mono (by simp))
  go_wp2_with fail
  refine (roomyInts_any wa wl wc ws _ HWL.out (hw.old hB1) (by omega)).mono ?_
  rintro e w2 ⟨v2, rfl, ho2, hb2'⟩
  obtain ⟨a2, c2, rfl, hs2, _, hc2, hm2⟩ := owns_seg ho2
  have hb12 := boxed2 hb1 hb2'
  have q5 := boxed hb12 5
  simp only [List.getElem?_toArray, List.getElem?_cons_succ, List.getElem?_cons_zero] at q5
  have hB2 : Below w.heap.size w w2 := hB1.trans (hb2'.mono hB1.size)
  have hs1' := hs1.old hb2'
  clear q4
  go_wp2_with fail
  refine (roomyInts_any va vl vc vs _ HVL.out (hv.old hB2) (by omega)).mono ?_
  rintro e w3 ⟨v3, rfl, ho3, hb3'⟩
  obtain ⟨a3, c3, rfl, hs3, _, hc3, hm3⟩ := owns_seg ho3
  have hb13 := boxed2 hb12 hb3'
  have p0 := boxed hb13 0
  have p1 := boxed hb13 1
  have p2 := boxed hb13 2
  have p3 := boxed hb13 3
  have p4 := boxed hb13 4
  have p5 := boxed hb13 5
  simp only [List.getElem?_toArray, List.getElem?_cons_succ, List.getElem?_cons_zero] at p0 p1 p2 p3 p4 p5
  have hB3 : Below w.heap.size w w3 := hB2.trans (hb3'.mono hB2.size)
  have hs1'' := hs1'.old hb3'
  have hs2' := hs2.old hb3'
  have hz3 : w.heap.size < w3.heap.size := by have := hb13.size; simp at this; omega
  have hm1' : c1 ≤ 9223372036854775807 := by unfold maxLen at hm1; exact hm1
  have hm2' : c2 ≤ 9223372036854775807 := by unfold maxLen at hm2; exact hm2
  have hm3' : c3 ≤ 9223372036854775807 := by unfold maxLen at hm3; exact hm3
  have hx1 : Seg .u8 w3 a1 (toI bs) := by
    have := hs1''.part0 bs.length (by rw [toI_len]; simp)
    rwa [toI_take, List.take_left] at this
  have hx2 : Seg .i64 w3 a2 ws := by
    have := hs2'.part0 ws.length (by simp)
    rwa [List.take_left] at this
  have hx3 : Seg .i64 w3 a3 vs := by
    have := hs3.part0 vs.length (by simp)
    rwa [List.take_left] at this
  clear q5 ho1 ho2 ho3 hm1 hm2 hm3 hs1 hs1' hs2 hb1 hb12 hb2' hb3'
  have hal : ∀ X, Below w3.heap.size w3 (w3.alloc X) := fun X => (Below.refl _ _).alloc (Nat.le_refl _) X
  go_wp2_with fail
  refine Calls.mono (hA.out _ a1 a2 a3 c1 c2 c3 (hx1.old (hal _)) (by omega) hm1' (hx2.old (hal _)) (hx3.old (hal _))) ?_
  rintro e w4 ⟨rfl, hb4⟩
  have hB34 : Below w3.heap.size w3 w4 := (hal _).trans (hb4.mono (by simp))
  have hB4 : Below w.heap.size w w4 := hB3.trans (hB34.mono hB3.size)
  have r1 : w4.cell? ⟨w.heap.size, 1, none⟩ = some (.slice ba bl bc) := by rw [hB34.cell (p := ⟨w.heap.size, 1, none⟩) hz3]; exact p1
  have t1 := hs1''.old hB34
  have t2 := hs2'.old hB34
  have t3 := hs3.old hB34
  clear hb4 hx1 hx2 hx3 hs1'' hs2' hs3
  go_wp2_with fail
  refine (roomy_any ba bl bc bs _ HBL.out (hb.old hB4) (by omega)).mono ?_
  rintro e w5 ⟨v5, rfl, ho5, hb5⟩
  obtain ⟨a5, c5, rfl, hs5, _, _, _⟩ := owns_seg ho5
  have hB35 : Below w3.heap.size w3 w5 := hB34.trans (hb5.mono hB34.size)
  have hB5 : Below w.heap.size w w5 := hB3.trans (hB35.mono hB3.size)
  have r4 : w5.cell? ⟨w.heap.size, 4, none⟩ = some (.slice wa wl wc) := by rw [hB35.cell (p := ⟨w.heap.size, 4, none⟩) hz3]; exact p4
  clear ho5 r1
  go_wp2_with fail
  refine (same_true a1 a5 c1 c5 (bl + 75) (bs ++ marks 75) w5 (t1.old hb5) hs5 (by rw [List.length_append, HBL.out, marks_len]) (room256 h256)).mono ?_
  rintro e w' ⟨rfl, rfl⟩
  go_wp2_with fail
  refine (roomyInts_any wa wl wc ws _ HWL.out (hw.old hB5) (by omega)).mono ?_
  rintro e w6 ⟨v6, rfl, ho6, hb6⟩
  obtain ⟨a6, c6, rfl, hs6, _, _, _⟩ := owns_seg ho6
  have hB36 : Below w3.heap.size w3 w6 := hB35.trans (hb6.mono hB35.size)
  clear ho6 r4
  go_wp2_with fail
  refine (sameInts_true a2 a6 c2 c6 (wl + 70) (ws ++ marksI 70) w6 ((t2.old hb5).old hb6) hs6 (by rw [List.length_append, HWL.out, marksI_len]) (by omega)).mono ?_
  rintro e w7 ⟨rfl, hb7⟩
  have hB37 : Below w3.heap.size w3 w7 := hB36.trans (hb7.mono hB36.size)
  have hB7 : Below w.heap.size w w7 := hB3.trans (hB37.mono hB3.size)
  have r5 : w7.cell? ⟨w.heap.size, 5, none⟩ = some (.slice va vl vc) := by rw [hB37.cell (p := ⟨w.heap.size, 5, none⟩) hz3]; exact p5
  go_wp2_with fail
  refine (roomyInts_any va vl vc vs _ HVL.out (hv.old hB7) (by omega)).mono ?_
  rintro e w8 ⟨v8, rfl, ho8, hb8⟩
  obtain ⟨a8, c8, rfl, hs8, _, _, _⟩ := owns_seg ho8
  have hB38 : Below w3.heap.size w3 w8 := hB37.trans (hb8.mono hB37.size)
  have hB8 : Below w.heap.size w w8 := hB3.trans (hB38.mono hB3.size)
  clear ho8 r5
  go_wp2_with fail
  refine (sameInts_true a3 a8 c3 c8 (vl + 70) (vs ++ marksI 70) w8 ((((t3.old hb5).old hb6).old hb7).old hb8) hs8 (by rw [List.length_append, HVL.out, marksI_len]) (by omega)).mono ?_
  rintro e w9 ⟨rfl, hb9⟩
  go_wp2
  go_ret
  exact ⟨rfl, hB8.trans (hb9.mono hB8.size)⟩
end Go.Proofs.Ytebpaolniemfgab
