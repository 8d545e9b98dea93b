/-
  view.Fields: what it answers: the widths may not be; the bytes are not there; the fields.
-/
import Derived.Test.YtfoeepbndfnifaaDoorUnpack
import Derived.Defers
import Derived.Recover
import Derived.Laws.Pointers
namespace Go.Proofs.YtfoeepbndfnifaaDoor
open Go.RowKit

theorem fieldsCatch (B : Nat) (u : TypeId) (pv v1 v2 v3 : Value) (older : List PanicEntry) (w : World) (hc1 : w.cell? ⟨B, 0, none⟩ = some v1) (hc2 : w.cell? ⟨B + 1, 0, none⟩ = some v2) (hc3 : w.cell? ⟨B + 1 + 1, 0, none⟩ = some v3)
    (hz1 : w.frozen? ⟨B, 0, none⟩ = false) (hz2 : w.frozen? ⟨B + 1, 0, none⟩ = false) (hz3 : w.frozen? ⟨B + 1 + 1, 0, none⟩ = false) :
    CallsD Tryd.prog 56 #[.pointer (some ⟨B, 0, none⟩), .pointer (some ⟨B + 1, 0, none⟩), .pointer (some ⟨B + 1 + 1, 0, none⟩)] (.panicking ({ v := .iface u pv, recovered := false } :: older)) w fun e u' w' =>
      e = .returned (.tuple #[]) ∧ u' = .panicking ({ v := .iface u pv, recovered := true } :: older) ∧ w' = ((w.setCell ⟨B, 0, none⟩ (.slice none 0 0)).setCell ⟨B + 1, 0, none⟩ (.int .i64 0)).setCell ⟨B + 1 + 1, 0, none⟩ (.int .i64 10) := by
  have n1 : (⟨B, 0, none⟩ : Addr) ≠ ⟨B + 1, 0, none⟩ := by simp
  have n2 : (⟨B, 0, none⟩ : Addr) ≠ ⟨B + 1 + 1, 0, none⟩ := by simp
  have n3 : (⟨B + 1, 0, none⟩ : Addr) ≠ ⟨B + 1 + 1, 0, none⟩ := by simp
  have a2 : (w.setCell ⟨B, 0, none⟩ (.slice none 0 0)).cell? ⟨B + 1, 0, none⟩ = some v2 := by rw [World.cell?_setCell_other _ _ _ _ n1]; exact hc2
  have a3 : ((w.setCell ⟨B, 0, none⟩ (.slice none 0 0)).setCell ⟨B + 1, 0, none⟩ (.int .i64 0)).cell? ⟨B + 1 + 1, 0, none⟩ = some v3 := by rw [World.cell?_setCell_other _ _ _ _ n3, World.cell?_setCell_other _ _ _ _ n2]; exact hc3
  refine callsD_of_wpS Tryd.func56 rfl fun c₀ cs hu => ?_
  apply wpS_seq
  apply wpS_region
  simp [wpOpsS, go_sem, recoverD, hu, Tryd.ntmps56, Exit.thenS]
  refine wpS_cond (t := true) (by simp [Act.eval, Array.replicate]) ?_
  simp only [if_true]
  apply wpS_region
  simp [wpOpsS, go_sem, hc1, a2, a3, hz1, hz2, hz3, bodyPostS, results, Tryd.results56]

theorem three_cells (w : World) (B : Nat) (x1 x2 x3 : Value) {v1 v2 v3 : Value} (hc1 : w.cell? ⟨B, 0, none⟩ = some v1) (hc2 : w.cell? ⟨B + 1, 0, none⟩ = some v2) (hc3 : w.cell? ⟨B + 1 + 1, 0, none⟩ = some v3) :
    (((w.setCell ⟨B, 0, none⟩ x1).setCell ⟨B + 1, 0, none⟩ x2).setCell ⟨B + 1 + 1, 0, none⟩ x3).cell? ⟨B, 0, none⟩ = some x1 ∧
    (((w.setCell ⟨B, 0, none⟩ x1).setCell ⟨B + 1, 0, none⟩ x2).setCell ⟨B + 1 + 1, 0, none⟩ x3).cell? ⟨B + 1, 0, none⟩ = some x2 ∧
    (((w.setCell ⟨B, 0, none⟩ x1).setCell ⟨B + 1, 0, none⟩ x2).setCell ⟨B + 1 + 1, 0, none⟩ x3).cell? ⟨B + 1 + 1, 0, none⟩ = some x3 := by
  have n1 : (⟨B, 0, none⟩ : Addr) ≠ ⟨B + 1, 0, none⟩ := by simp
  have n2 : (⟨B, 0, none⟩ : Addr) ≠ ⟨B + 1 + 1, 0, none⟩ := by simp
  have n3 : (⟨B + 1, 0, none⟩ : Addr) ≠ ⟨B + 1 + 1, 0, none⟩ := by simp
  have a2 : (w.setCell ⟨B, 0, none⟩ x1).cell? ⟨B + 1, 0, none⟩ = some v2 := by rw [World.cell?_setCell_other _ _ _ _ n1]; exact hc2
  have a3 : ((w.setCell ⟨B, 0, none⟩ x1).setCell ⟨B + 1, 0, none⟩ x2).cell? ⟨B + 1 + 1, 0, none⟩ = some v3 := by rw [World.cell?_setCell_other _ _ _ _ n3, World.cell?_setCell_other _ _ _ _ n2]; exact hc3
  refine ⟨?_, ?_, World.cell?_setCell_same _ _ _ a3⟩
  · rw [World.cell?_setCell_other _ _ _ _ n2.symm, World.cell?_setCell_other _ _ _ _ n1.symm]; exact World.cell?_setCell_same _ _ _ hc1
  · rw [World.cell?_setCell_other _ _ _ _ n3.symm]; exact World.cell?_setCell_same _ _ _ a2

theorem fieldsIdle (p1 p2 p3 : Addr) (w : World) :
    CallsD Tryd.prog 56 #[.pointer (some p1), .pointer (some p2), .pointer (some p3)] .returning w fun e u' w' => e = .returned (.tuple #[]) ∧ u' = .returning ∧ w' = w := by
  refine callsD_of_wpS Tryd.func56 rfl fun c₀ cs hu => ?_
  apply wpS_seq
  apply wpS_region
  simp [wpOpsS, go_sem, recoverD, hu, Tryd.ntmps56, Exit.thenS]
  refine wpS_cond (t := false) (by simp [Act.eval, Array.replicate]) ?_
  simp only [Bool.false_eq_true, if_false]
  refine wpS_of_wp (wp_skip ?_)
  cases c₀
  simp_all [bodyPostS, results, Tryd.results56]

set_option maxHeartbeats 400000 in
set_option maxRecDepth 100000 in
theorem fields_widths (ad ad2 : Option Addr) (len cap cap2 : Nat) (at' : Int) (ws : List Int) (w : World) (hw : Seg .i64 w ad2 ws) (hlen : ws.length ≤ 9223372036854775807) (hbad : okW ws = false) :
    Calls Tryd.prog 31 #[.slice ad len cap, .int .i64 at', .slice ad2 ws.length cap2] w fun e w' =>
      e = .returned (.tuple #[.slice none 0 0, .int .i64 0, .int .i64 11]) ∧ Below w.heap.size w w' := by
  have hN : boN ws = 0 := by simp [boN, hbad]
  have hE : boE ws = 11 := by simp [boE, hbad]
  have hseg : ∀ X Y Z, Seg .i64 (((w.alloc X).alloc Y).alloc Z) ad2 ws := fun X Y Z => hw.old ((((Below.refl _ _).alloc (Nat.le_refl _) X).alloc (by simp) Y).alloc (by simp; omega) Z)
  go_enter_defers Tryd.func31, Tryd.ntmps31
  go_wp2_with fail
  refine (bytesOf_any ad2 cap2 ws _ (hseg _ _ _) hlen).mono ?_
  rintro e w' ⟨rfl, rfl⟩
  rw [hN, hE]
  clear hN hE
  go_wp2
  go_region
  go_wp2
  simp [bodyPostD, Leaves, results, Tryd.results31, go_sem]
  exact ((((Below.refl _ _).alloc (Nat.le_refl _) _).alloc (by simp) _).alloc (by simp; omega) _).drew

set_option maxHeartbeats 400000 in
set_option maxRecDepth 100000 in
theorem fields_out (ad ad2 : Option Addr) (len cap cap2 : Nat) (at' : Int) (ws : List Int) (w : World) (hw : Seg .i64 w ad2 ws) (hlen : ws.length ≤ 9223372036854775807) (hok : okW ws = true)
    (h2 : len ≤ cap) (h3 : cap ≤ 9223372036854775807) (ha : at' ≤ 9223372036854775807) (hout : at' < 0 ∨ (len : Int) < at' + sumI ws / 8) :
    Calls Tryd.prog 31 #[.slice ad len cap, .int .i64 at', .slice ad2 ws.length cap2] w fun e w' =>
      e = .returned (.tuple #[.slice none 0 0, .int .i64 0, .int .i64 10]) ∧ Below w.heap.size w w' := by
  have hmf : ∀ (fn : Fn) (first cap : Array Value) (w : World), (Instr.makeFunc fn first cap).run Tryd.prog w = .ok (.func fn first cap) w := fun _ _ _ _ => rfl
  have hN : boN ws = sumI ws / 8 := by simp [boN, hok]
  have hE : boE ws = 0 := by simp [boE, hok]
  have hs0 : 0 ≤ sumI ws / 8 ∧ sumI ws / 8 ≤ 256 := by
    obtain ⟨l, rfl, hl, hx, _⟩ := okW_nat ws hok
    have := M.tot_le l 32 (fun x hx' => (hx x hx').2)
    rw [sumI_toI]
    omega
  obtain ⟨n, hn⟩ : ∃ n, n = sumI ws / 8 := ⟨_, rfl⟩
  rw [← hn] at hN hs0 hout
  obtain ⟨hs0, hs1⟩ := hs0
  have hseg : ∀ X Y Z, Seg .i64 (((w.alloc X).alloc Y).alloc Z) ad2 ws := fun X Y Z => hw.old ((((Below.refl _ _).alloc (Nat.le_refl _) X).alloc (by simp) Y).alloc (by simp; omega) Z)
  clear hn
  go_enter_defers Tryd.func31, Tryd.ntmps31
  go_wp2_with fail
  refine (bytesOf_any ad2 cap2 ws _ (hseg _ _ _) hlen).mono ?_
  rintro e w' ⟨rfl, rfl⟩
  rw [hN, hE]
  clear hN hE hseg
  go_wp2_with fail
  refine (cut_no ad len cap at' n _ hout h2 h3 hs0 (by omega) ha).mono ?_
  rintro e w' ⟨rfl, rfl⟩
  go_wp2
  refine leaves_cons (f := 56) (args := #[.pointer (some ⟨w.heap.size, 0, none⟩), .pointer (some ⟨w.heap.size + 1, 0, none⟩), .pointer (some ⟨w.heap.size + 1 + 1, 0, none⟩)]) (by simp) (by simp [go_sem]) ?_
  refine (fieldsCatch w.heap.size 38 _ (.slice none 0 0) (.int .i64 0) (.int .i64 0) [] _ ?_ ?_ ?_ ?_ ?_ ?_).mono ?_
  · simp [go_sem]
  · simp [go_sem]
  · simp [go_sem]
  · simp [go_sem]
  · simp [go_sem]
  · simp [go_sem]
  rintro e u' w'' ⟨rfl, rfl, rfl⟩
  simp [Leaves, settle, results, Tryd.results31, go_sem]
  exact ((((Below.refl _ _).alloc (Nat.le_refl _) _).alloc (by simp) _).alloc (by simp; omega) _)

set_option maxHeartbeats 400000 in
set_option maxRecDepth 100000 in
theorem fields_ok (ad ad2 : Option Addr) (cap cap2 at' n : Nat) (bs ws : List Nat) (w : World) (hb : Seg .u8 w ad (toI bs)) (hw : Seg .i64 w ad2 (toI ws))
    (h256 : ∀ x ∈ bs, x < 256) (h64 : ws.length ≤ 64) (hws : ∀ x ∈ ws, 1 ≤ x ∧ x ≤ 32) (htot : M.tot ws = 8 * n) (hin : at' + n ≤ bs.length) (h2 : bs.length ≤ cap) (h3 : cap ≤ 9223372036854775807) :
    Calls Tryd.prog 31 #[.slice ad bs.length cap, .int .i64 at', .slice ad2 ws.length cap2] w fun e w' => ∃ v,
      e = .returned (.tuple #[v, .int .i64 ((at' + n : Nat) : Int), .int .i64 0]) ∧
      w'.ownsRow w.heap.size 3 1 v ws.length ((M.fieldsN (M.tot ws) (M.numB ((bs.drop at').take n)) ws).map (fun x : Nat => Value.int .i64 (x : Int))) ∧ Below w.heap.size w w' := by
  have hmf : ∀ (fn : Fn) (first cap : Array Value) (w : World), (Instr.makeFunc fn first cap).run Tryd.prog w = .ok (.func fn first cap) w := fun _ _ _ _ => rfl
  have hok : okW (toI ws) = true := okW_mk ws h64 hws (by omega)
  have hN : boN (toI ws) = (n : Int) := by simp only [boN, hok, if_true, sumI_toI]; omega
  have hE : boE (toI ws) = 0 := by simp [boE, hok]
  have hl2 : (toI ws).length = ws.length := toI_len ws
  have hb' : ∀ X Y Z, Below w.heap.size w (((w.alloc X).alloc Y).alloc Z) := fun X Y Z => (((Below.refl _ _).alloc (Nat.le_refl _) X).alloc (by simp) Y).alloc (by simp; omega) Z
  have hbo := fun (W : World) (h : Seg .i64 W ad2 (toI ws)) => bytesOf_any ad2 cap2 (toI ws) W h (by omega)
  rw [hl2, hN, hE] at hbo
  have HB : Hid (∀ (W : World), Seg .i64 W ad2 (toI ws) → Calls Tryd.prog 55 #[.slice ad2 ws.length cap2] W fun e w' => e = .returned (.tuple #[.int .i64 n, .int .i64 0]) ∧ w' = W) := hbo
  clear hbo hN hE hl2 hok
  have hln : ((bs.drop at').take n).length = n := by simp; omega
  have hun := fun (W : World) (h1 : Seg .u8 W ad (toI bs)) (h2 : Seg .i64 W ad2 (toI ws)) => unpack_any (cutA ad at' n) ad2 n cap2 ((bs.drop at').take n) ws W
    (by rw [← toI_take, ← toI_drop]; exact h1.cut at' n (by rw [toI_len]; exact hin)) h2 (fun x hx => h256 x (List.mem_of_mem_drop (List.mem_of_mem_take hx))) h64 hws (by rw [hln]; exact htot)
  rw [hln] at hun
  obtain ⟨fs, hfs⟩ : ∃ fs, fs = (M.fieldsN (M.tot ws) (M.numB ((bs.drop at').take n)) ws).map (fun x : Nat => Value.int .i64 (x : Int)) := ⟨_, rfl⟩
  rw [← hfs] at hun ⊢
  have HU : Hid (∀ (W : World), Seg .u8 W ad (toI bs) → Seg .i64 W ad2 (toI ws) → Calls Tryd.prog 57 #[.slice (cutA ad at' n) n n, .slice ad2 ws.length cap2] W fun e w' => ∃ v, e = .returned v ∧ w'.ownsRow W.heap.size 3 1 v ws.length fs ∧ Below W.heap.size W w') := hun
  clear hun hfs hln htot
  go_enter_defers Tryd.func31, Tryd.ntmps31
  go_wp2_with fail
  refine (HB.out _ (hw.old (hb' _ _ _))).mono ?_
  rintro e w' ⟨rfl, rfl⟩
  go_wp2_with fail
  refine (cut_ok ad bs.length cap at' n _ hin h2 h3).mono ?_
  rintro e w' ⟨rfl, rfl⟩
  go_wp2_with fail
  refine (HU.out _ (hb.old (hb' _ _ _)) (hw.old (hb' _ _ _))).mono ?_
  rintro e w1 ⟨v, rfl, hown, hbel⟩
  obtain ⟨va, vc, hv⟩ := owns_shape hown
  rw [hv] at hown ⊢
  have c1 : w1.cell? ⟨w.heap.size, 0, none⟩ = some (.slice none 0 0) := by rw [hbel.cell (by simp; omega)]; simp [go_sem]
  have c2 : w1.cell? ⟨w.heap.size + 1, 0, none⟩ = some (.int .i64 0) := by rw [hbel.cell (by simp)]; simp [go_sem]
  have c3 : w1.cell? ⟨w.heap.size + 1 + 1, 0, none⟩ = some (.int .i64 0) := by rw [hbel.cell (by simp)]; simp [go_sem]
  have f1 : w1.frozen? ⟨w.heap.size, 0, none⟩ = false := by rw [hbel.frozen (by simp; omega)]; simp [go_sem]
  have f2 : w1.frozen? ⟨w.heap.size + 1, 0, none⟩ = false := by rw [hbel.frozen (by simp)]; simp [go_sem]
  have f3 : w1.frozen? ⟨w.heap.size + 1 + 1, 0, none⟩ = false := by rw [hbel.frozen (by simp)]; simp [go_sem]
  clear hv
  go_wp2
  refine leaves_cons (f := 56) (args := #[.pointer (some ⟨w.heap.size, 0, none⟩), .pointer (some ⟨w.heap.size + 1, 0, none⟩), .pointer (some ⟨w.heap.size + 1 + 1, 0, none⟩)]) (by simp) (by simp [go_sem]) ?_
  refine (fieldsIdle _ _ _ _).mono ?_
  rintro e u' w'' ⟨rfl, rfl, rfl⟩
  have q := three_cells w1 w.heap.size (.slice va ws.length vc) (.int .i64 ((at' : Int) + n)) (.int .i64 0) c1 c2 c3
  obtain ⟨q1, q2, q3⟩ := q
  simp [Leaves, settle, results, Tryd.results31, go_sem, q1, q2, q3]
  refine ⟨?_, ?_⟩
  · refine owns_mono (ownsRow_setCell_below (ownsRow_setCell_below (ownsRow_setCell_below hown ?_ _) ?_ _) ?_ _) ?_
    · simp; omega
    · simp
    · simp
    · simp; omega
  · exact (((((hb' _ _ _).trans (hbel.mono (by simp; omega))).setCell (by simp) _).setCell (by simp) _).setCell (by simp; omega) _)
end Go.Proofs.YtfoeepbndfnifaaDoor
