/-
  The table of widths; takeApart.
-/
import Derived.Test.YtdinhgfkpjaipaaDoorI4Fn3
import Derived.Test.YtdinhgfkpjaipaaDoorPSmall
namespace Go.Proofs.YtdinhgfkpjaipaaDoor
open Go.RowKit
open I4 (H4)

def widC : List Value := [.int .i64 4, .int .i64 4, .int .i64 8, .int .i64 16, .int .i64 16, .int .i64 1, .int .i64 1, .int .i64 1, .int .i64 13, .int .i64 8, .int .i64 8, .int .i64 16, .int .i64 32, .int .i64 32]
/-- the table lies where the program has it -/
def Wid (w : World) : Prop := w.rangeAt 0 0 widC
theorem Wid.lt {w : World} (h : Wid w) : 0 < w.heap.size := World.block_lt_of_cell? w _ (h 0 _ rfl)
theorem Wid.old {w w' : World} (h : Wid w) (hb : Below w.heap.size w w') : Wid w' := fun j v hv => (hb.cell (p := ⟨0, 0 + j, none⟩) h.lt).trans (h j v hv)
theorem Wid.ch {S : Nat → Prop} {w w' : World} (h : Wid w) (k : Ch S w w') (hS : ¬ S 0) : Wid w' := fun j v hv => k.cell (h j v hv) hS
theorem wid_seg (w : World) : Seg .i64 (w.alloc (.cells widC.toArray 117)) (some ⟨w.heap.size, 0, none⟩) (toI I4.ws4) := by
  refine .inr ⟨_, _, rfl, ?_⟩
  intro i hi
  rw [Nat.zero_add, World.cell?_alloc_at _ _ _ _ rfl]
  have h14 : i < 14 := hi
  have := I4.lt20 (show i < 20 by omega)
  rcases this with rfl | rfl | rfl | rfl | rfl | rfl | rfl | rfl | rfl | rfl | rfl | rfl | rfl | rfl | rfl | rfl | rfl | rfl | rfl | rfl
  all_goals first | rfl | omega
theorem ws4_ok : ∀ x ∈ I4.ws4, 1 ≤ x ∧ x ≤ 32 := by decide
theorem ws4_len : (toI I4.ws4).length = 14 := rfl
set_option maxHeartbeats 800000 in
set_option maxRecDepth 100000 in
theorem takeApart_no (a : Option Addr) (len cap : Nat) (w : World) (hw : Wid w) (hl : len < 20) (h2 : len ≤ cap) (h3 : cap ≤ 9223372036854775807) :
    Calls Tryd.prog 54 #[.slice a len cap] w fun e w' => e = .returned (.tuple #[.slice none 0 0, .int .i64 10]) ∧ Below w.heap.size w w' := by
  have g0 : w.cell? ⟨0, 0, none⟩ = some (.int .i64 4) := hw 0 _ rfl
  have g1 : w.cell? ⟨0, 1, none⟩ = some (.int .i64 4) := hw 1 _ rfl
  have g2 : w.cell? ⟨0, 2, none⟩ = some (.int .i64 8) := hw 2 _ rfl
  have g3 : w.cell? ⟨0, 3, none⟩ = some (.int .i64 16) := hw 3 _ rfl
  have g4 : w.cell? ⟨0, 4, none⟩ = some (.int .i64 16) := hw 4 _ rfl
  have g5 : w.cell? ⟨0, 5, none⟩ = some (.int .i64 1) := hw 5 _ rfl
  have g6 : w.cell? ⟨0, 6, none⟩ = some (.int .i64 1) := hw 6 _ rfl
  have g7 : w.cell? ⟨0, 7, none⟩ = some (.int .i64 1) := hw 7 _ rfl
  have g8 : w.cell? ⟨0, 8, none⟩ = some (.int .i64 13) := hw 8 _ rfl
  have g9 : w.cell? ⟨0, 9, none⟩ = some (.int .i64 8) := hw 9 _ rfl
  have g10 : w.cell? ⟨0, 10, none⟩ = some (.int .i64 8) := hw 10 _ rfl
  have g11 : w.cell? ⟨0, 11, none⟩ = some (.int .i64 16) := hw 11 _ rfl
  have g12 : w.cell? ⟨0, 12, none⟩ = some (.int .i64 32) := hw 12 _ rfl
  have g13 : w.cell? ⟨0, 13, none⟩ = some (.int .i64 32) := hw 13 _ rfl
  have HS : Hid _ := wid_seg w
  have hb0 : Below w.heap.size w (w.alloc (.cells widC.toArray 117)) := (Below.refl _ _).alloc (Nat.le_refl _) _
  have HC : Hid (∀ W : World, Seg .i64 W (some ⟨w.heap.size, 0, none⟩) (toI I4.ws4) → Calls Tryd.prog 83 #[.slice a len cap, .int .i64 0, .slice (some ⟨w.heap.size, 0, none⟩) 14 14] W fun e w' => e = .returned (.tuple #[.slice none 0 0, .int .i64 0, .int .i64 10]) ∧ Below W.heap.size W w') := by
    intro W hs
    have e8 : sumI (toI I4.ws4) / 8 = 20 := by decide
    exact fields_out a (some ⟨w.heap.size, 0, none⟩) len cap 14 0 (toI I4.ws4) W hs (by decide) (by decide) h2 h3 (by decide) (.inr (by rw [e8]; omega))
  have HH : Hid _ := hb0
  clear hw hb0
  go_enter Tryd.func54, Tryd.ntmps54
  go_wp2_with fail
  refine Calls.mono (HC.out _ HS.out) ?_
  rintro e w1 ⟨rfl, hb1⟩
  have hb := bthen HH.out hb1
  go_wp2
  go_ret2
  exact ⟨rfl, hb⟩
set_option maxHeartbeats 800000 in
set_option maxRecDepth 100000 in
theorem takeApart_ok (a : Option Addr) (cap : Nat) (bs : List Nat) (w : World) (hw : Wid w) (hb : Seg .u8 w a (toI bs)) (h256 : ∀ x ∈ bs, x < 256) (hl : 20 ≤ bs.length) (h2 : bs.length ≤ cap) (h3 : cap ≤ 9223372036854775807) :
    Calls Tryd.prog 54 #[.slice a bs.length cap] w fun e w' => ∃ v, e = .returned (.tuple #[v, .int .i64 0]) ∧ w'.ownsRow w.heap.size 3 1 v 14 ((toI (I4.flds (fun i => bs.getD i 0))).map (Value.int .i64)) ∧ Below w.heap.size w w' := by
  have g0 : w.cell? ⟨0, 0, none⟩ = some (.int .i64 4) := hw 0 _ rfl
  have g1 : w.cell? ⟨0, 1, none⟩ = some (.int .i64 4) := hw 1 _ rfl
  have g2 : w.cell? ⟨0, 2, none⟩ = some (.int .i64 8) := hw 2 _ rfl
  have g3 : w.cell? ⟨0, 3, none⟩ = some (.int .i64 16) := hw 3 _ rfl
  have g4 : w.cell? ⟨0, 4, none⟩ = some (.int .i64 16) := hw 4 _ rfl
  have g5 : w.cell? ⟨0, 5, none⟩ = some (.int .i64 1) := hw 5 _ rfl
  have g6 : w.cell? ⟨0, 6, none⟩ = some (.int .i64 1) := hw 6 _ rfl
  have g7 : w.cell? ⟨0, 7, none⟩ = some (.int .i64 1) := hw 7 _ rfl
  have g8 : w.cell? ⟨0, 8, none⟩ = some (.int .i64 13) := hw 8 _ rfl
  have g9 : w.cell? ⟨0, 9, none⟩ = some (.int .i64 8) := hw 9 _ rfl
  have g10 : w.cell? ⟨0, 10, none⟩ = some (.int .i64 8) := hw 10 _ rfl
  have g11 : w.cell? ⟨0, 11, none⟩ = some (.int .i64 16) := hw 11 _ rfl
  have g12 : w.cell? ⟨0, 12, none⟩ = some (.int .i64 32) := hw 12 _ rfl
  have g13 : w.cell? ⟨0, 13, none⟩ = some (.int .i64 32) := hw 13 _ rfl
  have HS : Hid _ := wid_seg w
  have hb0 : Below w.heap.size w (w.alloc (.cells widC.toArray 117)) := (Below.refl _ _).alloc (Nat.le_refl _) _
  have HC : Hid (∀ W : World, Below w.heap.size w W → Seg .i64 W (some ⟨w.heap.size, 0, none⟩) (toI I4.ws4) → Calls Tryd.prog 83 #[.slice a bs.length cap, .int .i64 0, .slice (some ⟨w.heap.size, 0, none⟩) 14 14] W fun e w' => ∃ v, e = .returned (.tuple #[v, .int .i64 20, .int .i64 0]) ∧ w'.ownsRow W.heap.size 3 1 v 14 ((toI (I4.flds (fun i => bs.getD i 0))).map (Value.int .i64)) ∧ Below W.heap.size W w') := by
    intro W hB hs
    refine (fields_ok a (some ⟨w.heap.size, 0, none⟩) cap 14 0 20 bs I4.ws4 W (hb.old hB) hs h256 (by decide) ws4_ok (by rw [I4.tot4]) (by omega) h2 h3).mono ?_
    rintro e w' ⟨v, rfl, ho, hbb⟩
    refine ⟨v, rfl, ?_, hbb⟩
    rw [I4.tot4, List.drop_zero, I4.take20 bs hl, I4.fields_bl _ (fun i _ => I4.getD_lt bs h256 i), toI_map] at ho
    exact ho
  have HH : Hid _ := hb0
  obtain ⟨n, hn⟩ : ∃ n, n = bs.length := ⟨_, rfl⟩
  rw [← hn] at HC ⊢
  clear hw hb0 hn hl h2 h3
  go_enter Tryd.func54, Tryd.ntmps54
  go_wp2_with fail
  refine Calls.mono (HC.out _ HH.out HS.out) ?_
  rintro e w1 ⟨v, rfl, ho, hb1⟩
  have hbf := bthen HH.out hb1
  have HO : Hid _ := owns_mono ho (show w.heap.size ≤ _ by simp)
  clear ho
  go_wp2
  go_ret2
  exact ⟨v, rfl, HO.out, hbf⟩
end Go.Proofs.YtdinhgfkpjaipaaDoor
