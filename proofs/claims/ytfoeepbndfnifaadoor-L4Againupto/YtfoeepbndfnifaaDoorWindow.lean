/-
  view.Window: what it answers: no such number of bytes; the bytes are not there; the window.
-/
import Derived.Test.YtfoeepbndfnifaaDoorUint
namespace Go.Proofs.YtfoeepbndfnifaaDoor
open Go.RowKit

theorem windowCatch (B : Nat) (u : TypeId) (pv v1 v2 : Value) (older : List PanicEntry) (w : World) (hc1 : w.cell? ⟨B, 0, none⟩ = some v1) (hc2 : w.cell? ⟨B + 1, 0, none⟩ = some v2)
    (hz1 : w.frozen? ⟨B, 0, none⟩ = false) (hz2 : w.frozen? ⟨B + 1, 0, none⟩ = false) :
    CallsD Tryd.prog 60 #[.pointer (some ⟨B, 0, none⟩), .pointer (some ⟨B + 1, 0, none⟩)] (.panicking ({ v := .iface u pv, recovered := false } :: older)) w fun e u' w' =>
      e = .returned (.tuple #[]) ∧ u' = .panicking ({ v := .iface u pv, recovered := true } :: older) ∧ w' = (w.setCell ⟨B, 0, none⟩ (.slice none 0 0)).setCell ⟨B + 1, 0, none⟩ (.int .i64 10) := by
  have n1 : (⟨B, 0, none⟩ : Addr) ≠ ⟨B + 1, 0, none⟩ := by simp
  have a2 : (w.setCell ⟨B, 0, none⟩ (.slice none 0 0)).cell? ⟨B + 1, 0, none⟩ = some v2 := by rw [World.cell?_setCell_other _ _ _ _ n1]; exact hc2
  refine callsD_of_wpS Tryd.func60 rfl fun c₀ cs hu => ?_
  apply wpS_seq
  apply wpS_region
  simp [wpOpsS, go_sem, recoverD, hu, Tryd.ntmps60, Exit.thenS]
  refine wpS_cond (t := true) (by simp [Act.eval, Array.replicate]) ?_
  simp only [if_true]
  apply wpS_region
  simp [wpOpsS, go_sem, hc1, a2, hz1, hz2, bodyPostS, results, Tryd.results60]

theorem windowIdle (p1 p2 : Addr) (w : World) :
    CallsD Tryd.prog 60 #[.pointer (some p1), .pointer (some p2)] .returning w fun e u' w' => e = .returned (.tuple #[]) ∧ u' = .returning ∧ w' = w := by
  refine callsD_of_wpS Tryd.func60 rfl fun c₀ cs hu => ?_
  apply wpS_seq
  apply wpS_region
  simp [wpOpsS, go_sem, recoverD, hu, Tryd.ntmps60, Exit.thenS]
  refine wpS_cond (t := false) (by simp [Act.eval, Array.replicate]) ?_
  simp only [Bool.false_eq_true, if_false]
  refine wpS_of_wp (wp_skip ?_)
  cases c₀
  simp_all [bodyPostS, results, Tryd.results60]

set_option maxHeartbeats 400000 in
set_option maxRecDepth 100000 in
theorem window_arg (ad : Option Addr) (len cap : Nat) (at' n : Int) (w : World) (hbad : n < 0) :
    Calls Tryd.prog 33 #[.slice ad len cap, .int .i64 at', .int .i64 n] w fun e w' => e = .returned (.tuple #[.slice none 0 0, .int .i64 1]) ∧ Below w.heap.size w w' := by
  go_enter_defers Tryd.func33, Tryd.ntmps33
  go_wp2
  simp [bodyPostD, Leaves, results, Tryd.results33, go_sem]
  exact (((Below.refl _ _).alloc (Nat.le_refl _) _).alloc (by simp) _)

set_option maxHeartbeats 400000 in
set_option maxRecDepth 100000 in
theorem window_out (ad : Option Addr) (len cap : Nat) (at' n : Int) (w : World) (hn0 : 0 ≤ n) (hn8 : n ≤ 9223372036854775807) (h2 : len ≤ cap) (h3 : cap ≤ 9223372036854775807) (ha : at' ≤ 9223372036854775807) (hout : at' < 0 ∨ (len : Int) < at' + n) :
    Calls Tryd.prog 33 #[.slice ad len cap, .int .i64 at', .int .i64 n] w fun e w' => e = .returned (.tuple #[.slice none 0 0, .int .i64 10]) ∧ Below w.heap.size w w' := by
  have hmf : ∀ (fn : Fn) (first cap : Array Value) (w : World), (Instr.makeFunc fn first cap).run Tryd.prog w = .ok (.func fn first cap) w := fun _ _ _ _ => rfl
  go_enter_defers Tryd.func33, Tryd.ntmps33
  go_wp2_with fail
  refine (cut_no ad len cap at' n _ hout h2 h3 (by omega) (by omega) ha).mono ?_
  rintro e w' ⟨rfl, rfl⟩
  go_wp2
  refine leaves_cons (f := 60) (args := #[.pointer (some ⟨w.heap.size, 0, none⟩), .pointer (some ⟨w.heap.size + 1, 0, none⟩)]) (by simp) (by simp [go_sem]) ?_
  refine (windowCatch w.heap.size 38 _ (.slice none 0 0) (.int .i64 0) [] _ ?_ ?_ ?_ ?_).mono ?_
  · simp [go_sem]
  · simp [go_sem]
  · simp [go_sem]
  · simp [go_sem]
  rintro e u' w'' ⟨rfl, rfl, rfl⟩
  simp [Leaves, settle, results, Tryd.results33, go_sem]
  exact (((Below.refl _ _).alloc (Nat.le_refl _) _).alloc (by simp) _)

set_option maxHeartbeats 400000 in
set_option maxRecDepth 100000 in
theorem window_ok (ad : Option Addr) (len cap at' n : Nat) (w : World) (hin : at' + n ≤ len) (h2 : len ≤ cap) (h3 : cap ≤ 9223372036854775807) :
    Calls Tryd.prog 33 #[.slice ad len cap, .int .i64 at', .int .i64 n] w fun e w' => e = .returned (.tuple #[.slice (cutA ad at' n) n n, .int .i64 0]) ∧ Below w.heap.size w w' := by
  have hmf : ∀ (fn : Fn) (first cap : Array Value) (w : World), (Instr.makeFunc fn first cap).run Tryd.prog w = .ok (.func fn first cap) w := fun _ _ _ _ => rfl
  go_enter_defers Tryd.func33, Tryd.ntmps33
  go_wp2_with fail
  refine (cut_ok ad len cap at' n _ hin h2 h3).mono ?_
  rintro e w' ⟨rfl, rfl⟩
  go_wp2
  refine leaves_cons (f := 60) (args := #[.pointer (some ⟨w.heap.size, 0, none⟩), .pointer (some ⟨w.heap.size + 1, 0, none⟩)]) (by simp) (by simp [go_sem]) ?_
  refine (windowIdle _ _ _).mono ?_
  rintro e u' w'' ⟨rfl, rfl, rfl⟩
  simp [Leaves, settle, results, Tryd.results33, go_sem]
  exact (((Below.refl _ _).alloc (Nat.le_refl _) _).alloc (by simp) _)
end Go.Proofs.YtfoeepbndfnifaaDoor
