/-
  The statements' answered, of a Uint and of a Window: the look's answer is the document's.
-/
import Derived.Test.YtebpaolniemfgabRef
import Derived.Test.YtebpaolniemfgabRoomy
namespace Go.Proofs.Ytebpaolniemfgab
open Go.RowKit

/-- what a box holds stays, whatever is made behind it -/
theorem boxed {w w1 : World} {X : Array Value} {t : TypeId} (h : Below (w.alloc (.cells X t)).heap.size (w.alloc (.cells X t)) w1) (j : Nat) : w1.cell? ⟨w.heap.size, j, none⟩ = X[j]? := by
  rw [h.cell (by simp)]
  simp [go_sem]
theorem boxed2 {w w1 w2 : World} {X : Array Value} {t : TypeId} (h : Below (w.alloc (.cells X t)).heap.size (w.alloc (.cells X t)) w1) (h2 : Below w1.heap.size w1 w2) : Below (w.alloc (.cells X t)).heap.size (w.alloc (.cells X t)) w2 :=
  h.trans (h2.mono h.size)

set_option maxRecDepth 100000 in
set_option maxHeartbeats 800000 in
theorem answered_uint (at' n : Int) (ba wa va : Option Addr) (bl bc wl wc vl vc : Nat) (bs : List Nat) (w : World) (hl : bs.length = bl) (hb : Seg .u8 w ba (toI bs)) (h256 : ∀ x ∈ bs, x < 256) (hbc : bl ≤ bc) (hc : bc ≤ 9223372036854775807) (hbl : bl ≤ 140737488355328) (ha : at' ≤ 9223372036854775807) :
    Calls Try.prog 25 #[.agg #[.int .i64 1, .slice ba bl bc, .int .i64 at', .int .i64 n, .slice wa wl wc, .slice va vl vc]] w fun e w' => e = .returned (.bool true) ∧ Below w.heap.size w w' := by
  have hB : ∀ X, Below w.heap.size w (w.alloc X) := fun X => (Below.refl _ _).alloc (Nat.le_refl _) X
  have HL : Hid (bs.length = bl) := hl
  clear hl
  go_enter Try.func25, Try.ntmps25
  go_wp2_with fail
  refine (uint_total ba bl bc at' n bs _ HL.out (hb.old (hB _)) h256 hbc hc ha).mono ?_
  rintro e w1 ⟨rfl, hb1⟩
  have c1 := boxed hb1 1
  have c2 := boxed hb1 2
  have c3 := boxed hb1 3
  simp only [List.getElem?_toArray, List.getElem?_cons_succ, List.getElem?_cons_zero] at c1 c2 c3
  have hB1 : Below w.heap.size w w1 := (hB _).trans (hb1.mono (by simp))
  clear hb1
  go_wp2_with fail
  refine (refUint_total ba bl bc at' n bs _ HL.out (hb.old hB1) h256 hbl ha).mono ?_
  rintro e w' ⟨rfl, rfl⟩
  go_wp2_with (first | (go_at_call 11; refine (num_any _ _).mono ?_; rintro e w' ⟨rfl, rfl⟩))
  go_ret
  exact ⟨by simp, hB1⟩

set_option maxRecDepth 100000 in
set_option maxHeartbeats 800000 in
theorem answered_window (at' n : Int) (ba wa va : Option Addr) (bl bc wl wc vl vc : Nat) (bs : List Nat) (w : World) (hl : bs.length = bl) (hb : Seg .u8 w ba (toI bs)) (h256 : ∀ x ∈ bs, x < 256) (hbc : bl ≤ bc) (hc : bc ≤ 9223372036854775807) (hbl : bl ≤ 140737488355328) (ha : at' ≤ 9223372036854775807) (hn : n ≤ 9223372036854775807) :
    Calls Try.prog 25 #[.agg #[.int .i64 4, .slice ba bl bc, .int .i64 at', .int .i64 n, .slice wa wl wc, .slice va vl vc]] w fun e w' => e = .returned (.bool true) ∧ Below w.heap.size w w' := by
  have hB : ∀ X, Below w.heap.size w (w.alloc X) := fun X => (Below.refl _ _).alloc (Nat.le_refl _) X
  have HL : Hid (bs.length = bl) := hl
  clear hl
  have hc256 : ∀ x ∈ wB bs at' n, x < 256 := by
    unfold wB
    split
    · exact fun x hx => h256 x (List.mem_of_mem_drop (List.mem_of_mem_take hx))
    · intro x hx; cases hx
  go_enter Try.func25, Try.ntmps25
  go_wp2_with fail
  refine (window_total ba bl bc at' n bs _ HL.out (hb.old (hB _)) hbc hc ha hn).mono ?_
  rintro e w1 ⟨xa, rfl, hxs, hb1⟩
  have c1 := boxed hb1 1
  have c2 := boxed hb1 2
  have c3 := boxed hb1 3
  simp only [List.getElem?_toArray, List.getElem?_cons_succ, List.getElem?_cons_zero] at c1 c2 c3
  have hB1 : Below w.heap.size w w1 := (hB _).trans (hb1.mono (by simp))
  clear hb1
  go_wp2_with fail
  refine (refWindow_total ba bl bc at' n bs _ HL.out (hb.old hB1) hbl ha).mono ?_
  rintro e w2 ⟨yv, rfl, hyo, hb2⟩
  obtain ⟨ya, yc, rfl, hys, _, _, _⟩ := owns_seg hyo
  clear hyo
  have hB2 : Below w.heap.size w w2 := hB1.trans (hb2.mono hB1.size)
  go_wp2_with fail
  refine (same_true xa ya _ yc _ (wB bs at' n) _ (hxs.old hb2) hys rfl hc256).mono ?_
  rintro e w' ⟨rfl, rfl⟩
  go_wp2_with (first | (go_at_call 11; refine (num_any _ _).mono ?_; rintro e w' ⟨rfl, rfl⟩))
  go_ret
  exact ⟨by simp, hB2⟩
end Go.Proofs.Ytebpaolniemfgab
