/-
  view.Uint: what it answers: no such number of bytes; the bytes are not there; the number.
-/
import Derived.Test.YtfoeepbndfnifaaDoorPack
namespace Go.Proofs.YtfoeepbndfnifaaDoor
open Go.RowKit

theorem uintCatch (B : Nat) (u : TypeId) (pv v1 v2 : Value) (older : List PanicEntry) (w : World) (hc1 : w.cell? ⟨B, 0, none⟩ = some v1) (hc2 : w.cell? ⟨B + 1, 0, none⟩ = some v2)
    (hz1 : w.frozen? ⟨B, 0, none⟩ = false) (hz2 : w.frozen? ⟨B + 1, 0, none⟩ = false) :
    CallsD Tryd.prog 87 #[.pointer (some ⟨B, 0, none⟩), .pointer (some ⟨B + 1, 0, none⟩)] (.panicking ({ v := .iface u pv, recovered := false } :: older)) w fun e u' w' =>
      e = .returned (.tuple #[]) ∧ u' = .panicking ({ v := .iface u pv, recovered := true } :: older) ∧ w' = (w.setCell ⟨B, 0, none⟩ (.int .u64 0)).setCell ⟨B + 1, 0, none⟩ (.int .i64 10) := by
  have n1 : (⟨B, 0, none⟩ : Addr) ≠ ⟨B + 1, 0, none⟩ := by simp
  have a2 : (w.setCell ⟨B, 0, none⟩ (.int .u64 0)).cell? ⟨B + 1, 0, none⟩ = some v2 := by rw [World.cell?_setCell_other _ _ _ _ n1]; exact hc2
  refine callsD_of_wpS Tryd.func87 rfl fun c₀ cs hu => ?_
  apply wpS_seq
  apply wpS_region
  simp [wpOpsS, go_sem, recoverD, hu, Tryd.ntmps87, Exit.thenS]
  refine wpS_cond (t := true) (by simp [Act.eval, Array.replicate]) ?_
  simp only [if_true]
  apply wpS_region
  simp [wpOpsS, go_sem, hc1, a2, hz1, hz2, bodyPostS, results, Tryd.results87]

theorem two_cells (w : World) (B : Nat) (x1 x2 : Value) {v1 v2 : Value} (hc1 : w.cell? ⟨B, 0, none⟩ = some v1) (hc2 : w.cell? ⟨B + 1, 0, none⟩ = some v2) :
    ((w.setCell ⟨B, 0, none⟩ x1).setCell ⟨B + 1, 0, none⟩ x2).cell? ⟨B, 0, none⟩ = some x1 ∧
    ((w.setCell ⟨B, 0, none⟩ x1).setCell ⟨B + 1, 0, none⟩ x2).cell? ⟨B + 1, 0, none⟩ = some x2 := by
  have n1 : (⟨B, 0, none⟩ : Addr) ≠ ⟨B + 1, 0, none⟩ := by simp
  have a2 : (w.setCell ⟨B, 0, none⟩ x1).cell? ⟨B + 1, 0, none⟩ = some v2 := by rw [World.cell?_setCell_other _ _ _ _ n1]; exact hc2
  refine ⟨?_, World.cell?_setCell_same _ _ _ a2⟩
  rw [World.cell?_setCell_other _ _ _ _ n1.symm]; exact World.cell?_setCell_same _ _ _ hc1

theorem uintIdle (p1 p2 : Addr) (w : World) :
    CallsD Tryd.prog 87 #[.pointer (some p1), .pointer (some p2)] .returning w fun e u' w' => e = .returned (.tuple #[]) ∧ u' = .returning ∧ w' = w := by
  refine callsD_of_wpS Tryd.func87 rfl fun c₀ cs hu => ?_
  apply wpS_seq
  apply wpS_region
  simp [wpOpsS, go_sem, recoverD, hu, Tryd.ntmps87, Exit.thenS]
  refine wpS_cond (t := false) (by simp [Act.eval, Array.replicate]) ?_
  simp only [Bool.false_eq_true, if_false]
  refine wpS_of_wp (wp_skip ?_)
  cases c₀
  simp_all [bodyPostS, results, Tryd.results87]

set_option maxHeartbeats 400000 in
set_option maxRecDepth 100000 in
theorem uint_arg (ad : Option Addr) (len cap : Nat) (at' n : Int) (w : World) (hbad : n < 1 ∨ 8 < n) :
    Calls Tryd.prog 77 #[.slice ad len cap, .int .i64 at', .int .i64 n] w fun e w' => e = .returned (.tuple #[.int .u64 0, .int .i64 1]) ∧ Below w.heap.size w w' := by
  by_cases h1 : n < 1
  all_goals
    go_enter_defers Tryd.func77, Tryd.ntmps77
    go_wp2
    simp [bodyPostD, Leaves, results, Tryd.results77, go_sem]
    exact (((Below.refl _ _).alloc (Nat.le_refl _) _).alloc (by simp) _)

set_option maxHeartbeats 400000 in
set_option maxRecDepth 100000 in
theorem uint_out (ad : Option Addr) (len cap : Nat) (at' n : Int) (w : World) (hn1 : 1 ≤ n) (hn8 : n ≤ 8) (h2 : len ≤ cap) (h3 : cap ≤ 9223372036854775807) (ha : at' ≤ 9223372036854775807) (hout : at' < 0 ∨ (len : Int) < at' + n) :
    Calls Tryd.prog 77 #[.slice ad len cap, .int .i64 at', .int .i64 n] w fun e w' => e = .returned (.tuple #[.int .u64 0, .int .i64 10]) ∧ Below w.heap.size w w' := by
  have hmf : ∀ (fn : Fn) (first cap : Array Value) (w : World), (Instr.makeFunc fn first cap).run Tryd.prog w = .ok (.func fn first cap) w := fun _ _ _ _ => rfl
  go_enter_defers Tryd.func77, Tryd.ntmps77
  go_wp2_with fail
  refine (cut_no ad len cap at' n _ hout h2 h3 (by omega) (by omega) ha).mono ?_
  rintro e w' ⟨rfl, rfl⟩
  go_wp2
  refine leaves_cons (f := 87) (args := #[.pointer (some ⟨w.heap.size, 0, none⟩), .pointer (some ⟨w.heap.size + 1, 0, none⟩)]) (by simp) (by simp [go_sem]) ?_
  refine (uintCatch w.heap.size 38 _ (.int .u64 0) (.int .i64 0) [] _ ?_ ?_ ?_ ?_).mono ?_
  · simp [go_sem]
  · simp [go_sem]
  · simp [go_sem]
  · simp [go_sem]
  rintro e u' w'' ⟨rfl, rfl, rfl⟩
  simp [Leaves, settle, results, Tryd.results77, go_sem]
  exact (((Below.refl _ _).alloc (Nat.le_refl _) _).alloc (by simp) _)

set_option maxHeartbeats 400000 in
set_option maxRecDepth 100000 in
theorem uint_ok (ad : Option Addr) (cap at' n : Nat) (bs : List Nat) (w : World) (hb : Seg .u8 w ad (toI bs)) (h256 : ∀ x ∈ bs, x < 256) (hn1 : 1 ≤ n) (hn8 : n ≤ 8) (hin : at' + n ≤ bs.length) (h2 : bs.length ≤ cap) (h3 : cap ≤ 9223372036854775807) :
    Calls Tryd.prog 77 #[.slice ad bs.length cap, .int .i64 at', .int .i64 n] w fun e w' => e = .returned (.tuple #[.int .u64 ((M.numB ((bs.drop at').take n) : Nat) : Int), .int .i64 0]) ∧ Below w.heap.size w w' := by
  have hmf : ∀ (fn : Fn) (first cap : Array Value) (w : World), (Instr.makeFunc fn first cap).run Tryd.prog w = .ok (.func fn first cap) w := fun _ _ _ _ => rfl
  obtain ⟨cs, hcs⟩ : ∃ cs, cs = (bs.drop at').take n := ⟨_, rfl⟩
  have hcl : cs.length = n := by rw [hcs]; simp; omega
  have hc256 : ∀ x ∈ cs, x < 256 := by rw [hcs]; exact fun x hx => h256 x (List.mem_of_mem_drop (List.mem_of_mem_take hx))
  have hcut : Seg .u8 w (cutA ad at' n) (toI cs) := by rw [hcs, ← toI_take, ← toI_drop]; exact hb.cut at' n (by rw [toI_len]; exact hin)
  rw [← hcs]
  have HCL : Hid (cs.length = n) := hcl
  clear hcs hcl
  go_enter_defers Tryd.func77, Tryd.ntmps77
  go_wp2_with fail
  refine (cut_ok ad bs.length cap at' n _ hin h2 h3).mono ?_
  rintro e w' ⟨rfl, rfl⟩
  go_wp2
  obtain ⟨B, hB⟩ : ∃ B, B = w.heap.size := ⟨_, rfl⟩
  go_loopw [22] (fun ix wr => ∃ k : Nat, k ≤ n ∧ ix = .int .i64 k ∧ wr.cell? ⟨w.heap.size, 0, none⟩ = some (.int .u64 (heldOf cs k)) ∧ wr.cell? ⟨w.heap.size + 1, 0, none⟩ = some (.int .i64 0) ∧
      wr.frozen? ⟨w.heap.size, 0, none⟩ = false ∧ wr.frozen? ⟨w.heap.size + 1, 0, none⟩ = false ∧ Below w.heap.size w wr)
    (fun ix _ => n - (intOf ix).toNat)
  case atStart =>
    refine ⟨0, Nat.zero_le _, rfl, ?_, ?_, ?_, ?_, ?_⟩
    · simp [go_sem, heldOf, M.numB]
    · simp [go_sem]
    · simp [go_sem]
    · simp [go_sem]
    · exact (((Below.refl _ _).alloc (Nat.le_refl _) _).alloc (by simp) _)
  case round =>
    obtain ⟨k, hk, rfl, hv, he, hzv, hze, hbel⟩ := hrel
    by_cases hlt : k < n
    · have hs := hcut.old hbel
      rcases hs with hnil | ⟨bb, boff, hca, hbc⟩
      · exact absurd hnil (toI_ne cs (by rw [HCL.out]; omega))
      have hcb : wr.cell? ⟨bb, boff + k, none⟩ = some (.int .u8 ((cs.getD k 0 : Nat) : Int)) := by
        have := hbc k (by rw [toI_len, HCL.out]; exact hlt)
        rwa [toI_getD] at this
      have hkl : k < cs.length := by rw [HCL.out]; exact hlt
      obtain ⟨y, hy⟩ : ∃ y, y = cs.getD k 0 := ⟨_, rfl⟩
      rw [← hy] at hcb
      have hy2 : y = cs[k] := by rw [hy]; simp [List.getD, hkl]
      have hyl : y < 256 := by rw [hy2]; exact hc256 _ (List.getElem_mem _)
      have HY : Hid (y = cs[k]) := hy2
      obtain ⟨h, hh⟩ : ∃ h, h = heldOf cs k := ⟨_, rfl⟩
      rw [← hh] at hv
      have HH : Hid (h = heldOf cs k) := hh
      rw [hca]
      clear hbc hy hy2 hh
      go_wp2
      go_roundw
      case rel =>
        have hst := held_step cs k hkl h y HH.out HY.out hyl
        rw [hst]
        refine ⟨k + 1, by omega, by go_num, World.cell?_setCell_same _ _ _ hv, ?_, ?_, ?_, hbel.setCell (Nat.le_refl _) _⟩
        · rw [World.cell?_setCell_other _ _ _ _ (by simp)]; exact he
        · simpa using hzv
        · simpa using hze
      case measure => simp [intOf]; omega
    · obtain rfl : k = n := by omega
      have hfull : heldOf cs k = ((M.numB cs : Nat) : Int) := by
        have hlt2 := M.numB_lt cs hc256
        rw [HCL.out] at hlt2
        have h8 : (256 : Nat) ^ k ≤ 256 ^ 8 := Nat.pow_le_pow_right (by decide) hn8
        rw [heldOf, List.take_of_length_le (by rw [HCL.out]; exact Nat.le_refl _), Nat.mod_eq_of_lt (by omega)]
      rw [hfull] at hv
      clear hfull
      go_wp2
      refine leaves_cons (f := 87) (args := #[.pointer (some ⟨w.heap.size, 0, none⟩), .pointer (some ⟨w.heap.size + 1, 0, none⟩)]) (by simp) (by simp [go_sem]) ?_
      refine (uintIdle _ _ _).mono ?_
      rintro e u' w'' ⟨rfl, rfl, rfl⟩
      obtain ⟨q1, q2⟩ := two_cells wr w.heap.size (.int .u64 ((M.numB cs : Nat) : Int)) (.int .i64 0) hv he
      simp [Leaves, settle, results, Tryd.results77, go_sem, q1, q2]
      exact ((hbel.setCell (by simp) _).setCell (by simp) _)
end Go.Proofs.YtfoeepbndfnifaaDoor
