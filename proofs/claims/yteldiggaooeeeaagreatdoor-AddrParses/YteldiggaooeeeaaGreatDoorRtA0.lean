/-
  The head of an address: its first bits.
-/
import Derived.Test.YteldiggaooeeeaaGreatDoorPSplit
import Derived.Test.YteldiggaooeeeaaGreatDoorI4Ip
import Derived.Test.YteldiggaooeeeaaGreatDoorMixH
import Derived.Laws.BitsAllLaws
import Derived.Deep.MidRow
import Derived.Laws.ResultCell
namespace Go.Proofs.YteldiggaooeeeaaGreatDoor
open Go.RowKit

/-- what stands of the byte i if the first n bits are kept -/
def mkA (n i : Nat) : Nat := 255 * 2 ^ (8 - (n - 8 * i)) % 256
def hdA (x : Nat → Nat) (n i : Nat) : Nat := if 8 * (i + 1) ≤ n then x i else x i &&& mkA n i
/-- behind k rounds -/
def hdK (x : Nat → Nat) (n k i : Nat) : Nat := if i < k then hdA x n i else x i
theorem hdK_zero (x : Nat → Nat) (n : Nat) : hdK x n 0 = x := by funext i; simp [hdK]
theorem hdK_keep (x : Nat → Nat) (n k : Nat) (h : 8 * (k + 1) ≤ n) : hdK x n (k + 1) = hdK x n k := by
  funext i
  unfold hdK
  by_cases h1 : i < k
  · rw [if_pos h1, if_pos (by omega)]
  · by_cases h2 : i = k
    · subst h2; rw [if_pos (by omega), if_neg h1]; unfold hdA; rw [if_pos h]
    · rw [if_neg (by omega), if_neg h1]
theorem hdK_all (x : Nat → Nat) (n : Nat) : arCells (hdK x n 16) = arCells (hdA x n) := by
  simp [arCells, hdK]
def ArAt (w : World) (O : Nat) (C : Array Value) : Prop := w.heap[O]? = some (.cells C 26 (0, 0))
theorem ArAt.lt {w : World} {O : Nat} {C : Array Value} (k : ArAt w O C) : O < w.heap.size := (Array.getElem?_eq_some_iff.1 k).1
theorem ArAt.below {w w' : World} {O : Nat} {C : Array Value} (k : ArAt w O C) (h : Below w.heap.size w w') : ArAt w' O C := (h.block O k.lt).trans k
theorem ArAt.ch {S : Nat → Prop} {w w' : World} {O : Nat} {C : Array Value} (k : ArAt w O C) (h : Ch S w w') (hS : ¬ S O) : ArAt w' O C := (h.block O k.lt hS).trans k
theorem ArAt.cell {w : World} {O : Nat} {C : Array Value} (k : ArAt w O C) (i : Nat) : w.cell? ⟨O, i, none⟩ = C[i]? := by unfold ArAt at k; simp [World.cell?, k]
theorem arAt_new (w : World) (C : Array Value) : ArAt (w.alloc (.cells C 26)) w.heap.size C := heap_alloc_new _ _
theorem ar_get (x : Nat → Nat) (i : Nat) (h : i < 16) : (arCells x)[i]? = some (.int .u8 (x i : Nat)) := by
  rw [arCells_eq]; simp [h]
theorem ArAt.get {w : World} {O : Nat} {x : Nat → Nat} (k : ArAt w O (arCells x)) (i : Nat) (h : i < 16) : w.cell? ⟨O, i, none⟩ = some (.int .u8 (x i : Nat)) := (k.cell i).trans (ar_get x i h)
theorem ar_set (x y : Nat → Nat) (k : Nat) (h : k < 16) (hy : ∀ i, i ≠ k → y i = x i) : (arCells x).setIfInBounds k (.int .u8 (y k : Nat)) = arCells y := by
  rw [arCells_eq, arCells_eq]
  have e : ∀ i, i < 16 → i ≠ k → (Value.int .u8 (x i : Nat)) = .int .u8 (y i : Nat) := fun i _ hi => by rw [hy i hi]
  apply Array.ext_getElem?
  intro i
  rw [Array.getElem?_setIfInBounds]
  by_cases h2 : k = i
  · subst h2; simp [h]
  · rw [if_neg h2]
    by_cases h1 : i < 16
    · simp [h1, hy i (fun e => h2 e.symm)]
    · simp [h1]
theorem ArAt.put {w : World} {O : Nat} {x y : Nat → Nat} (k : ArAt w O (arCells x)) (i : Nat) (h : i < 16) (hy : ∀ j, j ≠ i → y j = x j) : ArAt (w.setCell ⟨O, i, none⟩ (.int .u8 (y i : Nat))) O (arCells y) ∧ Ch (fun q => q = O) w (w.setCell ⟨O, i, none⟩ (.int .u8 (y i : Nat))) := by
  refine ⟨?_, (Ch.refl (fun q => q = O) w).set _ _ rfl⟩
  unfold ArAt at k ⊢
  rw [Go.heap_setCell_same _ _ _ _ _ _ k, ar_set x y i h hy]
theorem Tryz.sizeAr : (Tryz.prog.info? 26).map (·.size) = some 16 := by kernel_rfl
theorem wpList_load_ar {ops : Array Oper} {rest : List Oper} {o : Oper} {a : Act} {w : World} {Q : Exit → Act → World → Prop} (x : Operand) (ho : o.op = .load 26 x) (O off : Nat) (y : Nat → Nat) (hx : a.eval x = .pointer (some ⟨O, off, none⟩)) (hb : w.rangeAt O off (arCells y).toList)
    (hw : Region.wanted o (yielded ops a.tmps) = true) (h : wpList Tryz.prog ops Q rest (a.put o.dst (.agg (arCells y))) w) : wpList Tryz.prog ops Q (o :: rest) a w := by
  refine wpList_step fun K hK => ?_
  rw [if_pos hw]
  exact wp_load_mid 26 x ho O off hx (arCells y).toList _ hb Tryz.underlying26 rfl Tryz.sizeAr (hK _ _ h)
theorem ArAt.range {w : World} {O : Nat} {x : Nat → Nat} (k : ArAt w O (arCells x)) : w.rangeAt O 0 (arCells x).toList := by
  intro j v hv
  rw [Nat.zero_add, k.cell]
  simpa using hv
theorem wpList_store_ar {ops : Array Oper} {rest : List Oper} {o : Oper} {a : Act} {w : World} {Q : Exit → Act → World → Prop} (x y : Operand) (ho : o.op = .store 26 x y) (hd : o.dst = none) (O : Nat) (f g : Nat → Nat) (hx : a.eval x = .pointer (some ⟨O, 0, none⟩)) (hy : a.eval y = .agg (arCells g)) (hb : ArAt w O (arCells f))
    (hw : Region.wanted o (yielded ops a.tmps) = true) (hh : ∀ w', ArAt w' O (arCells g) → Ch (fun q => q = O) w w' → wpList Tryz.prog ops Q rest a w') : wpList Tryz.prog ops Q (o :: rest) a w := by
  refine wpList_step fun K hK => ?_
  rw [if_pos hw]
  refine wp_store_row 26 x y ho O (arCells g) hx hy _ (arCells f) hb Tryz.sizeAr rfl (by simp [arCells, Value.oneCell']) (hK _ _ ?_)
  rw [hd]
  refine hh _ (setRow_heap w O _ _ _ _ hb) ⟨rfl, rfl, rfl, ?_, ?_⟩
  · simp [World.setRow]
  · intro k hk hne
    simp only [World.setRow]
    rw [Array.getElem?_modify, if_neg (fun e => hne e.symm)]
theorem results_ar {fn : Func} {p : Tmp} (h : fn.results = #[.cell p 26]) (tmps : Array Value) (w : World) (O : Nat) (x : Nat → Nat) (hp : tmps.getD p undef = .pointer (some ⟨O, 0, none⟩)) (hb : ArAt w O (arCells x)) :
    (results fn tmps).run Tryz.prog w = .ok (.agg (arCells x)) w :=
  results_cell_row h tmps w O _ (arCells x) _ _ hp hb Tryz.underlying26 rfl Tryz.sizeAr
theorem hdK_step (x : Nat → Nat) (n k i : Nat) (h : i ≠ k) : hdK x n (k + 1) i = hdK x n k i := by
  unfold hdK
  by_cases h1 : i < k
  · rw [if_pos h1, if_pos (by omega)]
  · rw [if_neg (by omega), if_neg h1]
theorem hdK_at (x : Nat → Nat) (n k : Nat) (h : ¬ 8 * (k + 1) ≤ n) : hdK x n (k + 1) k = hdK x n k k &&& mkA n k := by
  unfold hdK
  rw [if_pos (by omega), if_neg (by omega)]
  unfold hdA
  rw [if_neg h]
theorem mkA_lt (n i : Nat) : mkA n i < 256 := Nat.mod_lt _ (by decide)
end Go.Proofs.YteldiggaooeeeaaGreatDoor
