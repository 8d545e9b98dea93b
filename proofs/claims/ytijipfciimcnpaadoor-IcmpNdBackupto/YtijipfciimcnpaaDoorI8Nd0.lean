/-
  PutND and the document's at the values of the statements' firsts: what may not be.
-/
import Derived.Test.YtijipfciimcnpaaDoorI8Har1
namespace Go.Proofs.YtijipfciimcnpaaDoor
open Go.RowKit
open I8 (M8)

def disC : List Value := [.int .i64 1, .int .i64 135, .int .i64 1, .int .i64 2, .int .i64 136, .int .i64 2]
/-- the table of discoveries lies where the program has it -/
def Dis8 (w : World) : Prop := w.rangeAt 1 0 disC
theorem Dis8.lt {w : World} (h : Dis8 w) : 1 < w.heap.size := World.block_lt_of_cell? w _ (h 0 _ rfl)
theorem Dis8.old {w w' : World} (h : Dis8 w) (hb : Below w.heap.size w w') : Dis8 w' := fun j v hv => (hb.cell (p := ⟨1, 0 + j, none⟩) h.lt).trans (h j v hv)
theorem Dis8.ch {S : Nat → Prop} {w w' : World} (h : Dis8 w) (k : Ch S w w') (hS : ¬ S 1) : Dis8 w' := fun j v hv => k.cell (h j v hv) hS
theorem ndBit_no (v : Int) (w : World) : Calls Tryd.prog 37 #[.bool false, .int .i64 v] w fun e w' => e = .returned (.int .i64 0) ∧ w = w' := by
  go_enter Tryd.func37, Tryd.ntmps37
  go_wp2
  go_ret
  exact ⟨rfl, rfl⟩
theorem Tryd.sizeDi : (Tryd.prog.info? 85).map (·.size) = some 3 := by kernel_rfl
def diC (a b c : Int) : Array Value := #[.int .i64 a, .int .i64 b, .int .i64 c]
def DiAt (w : World) (O : Nat) (a b c : Int) : Prop := w.heap[O]? = some (.cells (diC a b c) 85 (0, 0))
theorem DiAt.lt {w : World} {O : Nat} {a b c : Int} (k : DiAt w O a b c) : O < w.heap.size := (Array.getElem?_eq_some_iff.1 k).1
theorem DiAt.below {w w' : World} {O : Nat} {a b c : Int} (k : DiAt w O a b c) (h : Below w.heap.size w w') : DiAt w' O a b c := (h.block O k.lt).trans k
theorem DiAt.ch {S : Nat → Prop} {w w' : World} {O : Nat} {a b c : Int} (k : DiAt w O a b c) (h : Ch S w w') (hS : ¬ S O) : DiAt w' O a b c := (h.block O k.lt hS).trans k
theorem DiAt.cell {w : World} {O : Nat} {a b c : Int} (k : DiAt w O a b c) (i : Nat) : w.cell? ⟨O, i, none⟩ = (diC a b c)[i]? := by unfold DiAt at k; simp [World.cell?, k]
theorem DiAt.c1 {w : World} {O : Nat} {a b c : Int} (k : DiAt w O a b c) : w.cell? ⟨O, 1, none⟩ = some (.int .i64 b) := k.cell 1
theorem DiAt.c2 {w : World} {O : Nat} {a b c : Int} (k : DiAt w O a b c) : w.cell? ⟨O, 2, none⟩ = some (.int .i64 c) := k.cell 2
theorem diAt_new (w : World) (a b c : Int) : DiAt (w.alloc (.cells (diC a b c) 85)) w.heap.size a b c := heap_alloc_new _ _
theorem wpList_store_di {ops : Array Oper} {rest : List Oper} {o : Oper} {a : Act} {w : World} {Q : Exit → Act → World → Prop} (x y : Operand) (ho : o.op = .store 85 x y) (hd : o.dst = none) (O : Nat) (a1 b1 c1 a2 b2 c2 : Int) (hx : a.eval x = .pointer (some ⟨O, 0, none⟩)) (hy : a.eval y = .agg (diC a2 b2 c2)) (hb : DiAt w O a1 b1 c1)
    (hw : Region.wanted o (yielded ops a.tmps) = true) (hh : ∀ w', DiAt w' O a2 b2 c2 → Ch (fun q => q = O) w w' → wpList Tryd.prog ops Q rest a w') : wpList Tryd.prog ops Q (o :: rest) a w := by
  refine wpList_step fun K hK => ?_
  rw [if_pos hw]
  refine wp_store_row 85 x y ho O (diC a2 b2 c2) hx hy _ (diC a1 b1 c1) hb Tryd.sizeDi rfl (by simp [diC, Value.oneCell']) (hK _ _ ?_)
  rw [hd]
  refine hh _ (setRow_heap w O _ _ _ _ hb) ⟨rfl, rfl, rfl, ?_, ?_⟩
  · simp [World.setRow]
  · intro k hk hne
    simp only [World.setRow]
    rw [Array.getElem?_modify, if_neg (fun e => hne e.symm)]
theorem results_di_tmp {fn : Func} {p u : Tmp} (h : fn.results = #[.cell p 85, .tmp u]) (tmps : Array Value) (w : World) (O : Nat) (a b c : Int) (hp : tmps.getD p undef = .pointer (some ⟨O, 0, none⟩)) (hb : DiAt w O a b c) :
    (results fn tmps).run Tryd.prog w = .ok (.tuple #[.agg (diC a b c), tmps.getD u undef]) w := by
  rw [results_cell_tmp h tmps Tryd.prog w, hp]
  simp [asAddr, run_loadVar_row w O _ 85 (diC a b c) _ _ hb Tryd.underlying85 rfl Tryd.sizeDi, Result.andThen]
theorem index_di (w : World) (k : Int) (hk : k = 0 ∨ k = 1) : (Instr.index 130 (.agg #[.int .i64 1, .int .i64 135, .int .i64 1, .int .i64 2, .int .i64 136, .int .i64 2]) (.int .i64 k)).run Tryd.prog w = .ok (.agg (if k = 0 then #[.int .i64 1, .int .i64 135, .int .i64 1] else #[.int .i64 2, .int .i64 136, .int .i64 2])) w := by
  rcases hk with rfl | rfl
  · kernel_rfl
  · kernel_rfl
theorem wpList_index_di {ops : Array Oper} {rest : List Oper} {o : Oper} {a : Act} {w : World} {Q : Exit → Act → World → Prop} (x y : Operand) (ho : o.op = .index 130 x y) (k : Int) (v : Array Value) (hk : k = 0 ∨ k = 1) (hv : (if k = 0 then #[.int .i64 1, .int .i64 135, .int .i64 1] else #[.int .i64 2, .int .i64 136, .int .i64 2]) = v) (hx : a.eval x = .agg #[.int .i64 1, .int .i64 135, .int .i64 1, .int .i64 2, .int .i64 136, .int .i64 2]) (hy : a.eval y = .int .i64 k)
    (hw : Region.wanted o (yielded ops a.tmps) = true) (hh : wpList Tryd.prog ops Q rest (a.put o.dst (.agg v)) w) : wpList Tryd.prog ops Q (o :: rest) a w := by
  refine wpList_step fun K hK => ?_
  rw [if_pos hw]
  unfold Oper.wp execOp
  have := index_di w k hk
  rw [hv] at this
  simp only [ho, hx, hy, Sem.run_bind, this, Result.andThen_ok]
  exact hK _ _ hh
/-- the discovery of a kind: its message, its option -/
def diOf (k : Int) : Array Value := if k = 1 then diC 1 135 1 else if k = 2 then diC 2 136 2 else diC 0 0 0
def isK (k : Int) : Bool := decide (k = 1 ∨ k = 2)
set_option maxHeartbeats 800000 in
set_option maxRecDepth 100000 in
theorem disFor_any (kd : Int) (w : World) (hd : Dis8 w) : Calls Tryd.prog 36 #[.int .i64 kd] w fun e w' => e = .returned (.tuple #[.agg (diOf kd), .bool (isK kd)]) ∧ Below w.heap.size w w' := by
  have g0 : w.cell? ⟨1, 0, none⟩ = some (.int .i64 1) := hd 0 _ rfl
  have g1 : w.cell? ⟨1, 1, none⟩ = some (.int .i64 135) := hd 1 _ rfl
  have g2 : w.cell? ⟨1, 2, none⟩ = some (.int .i64 1) := hd 2 _ rfl
  have g3 : w.cell? ⟨1, 3, none⟩ = some (.int .i64 2) := hd 3 _ rfl
  have g4 : w.cell? ⟨1, 4, none⟩ = some (.int .i64 136) := hd 4 _ rfl
  have g5 : w.cell? ⟨1, 5, none⟩ = some (.int .i64 2) := hd 5 _ rfl
  have lt := hd.lt
  have hb0 : Below w.heap.size w (w.alloc (.cells (diC 0 0 0) 85)) := (Below.refl _ _).alloc (Nat.le_refl _) _
  have hn0 := diAt_new w 0 0 0
  obtain ⟨W, hW⟩ : ∃ W, W = w.alloc (.cells (diC 0 0 0) 85) := ⟨_, rfl⟩
  rw [← hW] at hb0 hn0
  have HW : Hid (w.alloc (.cells #[.int .i64 0, .int .i64 0, .int .i64 0] 85) = W) := hW.symm
  obtain ⟨O, hO⟩ : ∃ O, O = w.heap.size := ⟨_, rfl⟩
  rw [← hO] at hn0
  have HO : Hid (w.heap.size = O) := hO.symm
  have HN0 : Hid (DiAt W O 0 0 0) := hn0
  clear hd hW hO hn0
  go_enter Tryd.func36, Tryd.ntmps36
  go_wp2
  rw [HW.out, HO.out]
  clear g0 g1 g2 g3 g4 g5
  go_loopw [7] (fun ix wr => ∃ k : Nat, k ≤ 2 ∧ ix = .int .i64 k ∧ Hid (1 ≤ k → kd ≠ 1) ∧ Hid (2 ≤ k → kd ≠ 2) ∧ DiAt wr O 0 0 0 ∧ Below w.heap.size w wr) (fun ix _ => 2 - (intOf ix).toNat)
  case atStart => exact ⟨0, by omega, rfl, (fun h => by omega), (fun h => by omega), HN0.out, hb0⟩
  case round =>
    obtain ⟨k, hk, rfl, H1, H2, hz, hbel⟩ := hrel
    have HZ : Hid (DiAt wr O 0 0 0) := hz
    have HOL : Hid (O < wr.heap.size) := hz.lt
    clear hz
    by_cases k0 : k = 0
    · subst k0
      by_cases e1 : kd = 1
      · subst e1
        have HX : Hid (DiAt (wr.alloc (.cells (diC 1 135 1) 85)) O 0 0 0) := HZ.out.below ((Below.refl _ _).alloc (Nat.le_refl _) _)
        have hbx : Below w.heap.size w (wr.alloc (.cells (diC 1 135 1) 85)) := hbel.alloc hbel.size _
        go_wp2_with (first | (refine wpList_index_di (.tmp 6) (.tmp 7) rfl 0 #[.int .i64 1, .int .i64 135, .int .i64 1] (.inl rfl) rfl rfl rfl rfl ?_) | (refine wpList_store_di (.tmp 2) (.tmp 14) rfl rfl O 0 0 0 1 135 1 rfl rfl HX.out rfl ?_))
        intro wE hRE kE
        have HRE : Hid (DiAt wE O 1 135 1) := hRE
        have HFE : Hid (Below w.heap.size w wE) := hbx.trans (kE.below (fun q e => by have e' : q = O := e; have := HO.out; omega) hbx.size)
        clear hRE kE
        go_wp2
        (try simp only [Exit.inBlock, Exit.then])
        refine bodyPost_ret (results_di_tmp rfl _ _ O 1 135 1 rfl HRE.out) rfl ?_
        exact ⟨rfl, HFE.out⟩
      · have e1' : ((1 : Int) == kd) = false := by rw [beq_eq_false_iff_ne]; omega
        have HX : Hid (DiAt (wr.alloc (.cells (diC 1 135 1) 85)) O 0 0 0) := HZ.out.below ((Below.refl _ _).alloc (Nat.le_refl _) _)
        have hbx : Below w.heap.size w (wr.alloc (.cells (diC 1 135 1) 85)) := hbel.alloc hbel.size _
        have HE1 : Hid (kd ≠ 1) := e1
        clear e1
        go_wp2_with (first | (refine wpList_index_di (.tmp 6) (.tmp 7) rfl 0 #[.int .i64 1, .int .i64 135, .int .i64 1] (.inl rfl) rfl rfl rfl rfl ?_))
        go_roundw
        case rel => exact ⟨1, by omega, rfl, (fun _ => HE1.out), (fun h => by omega), HX.out, hbx⟩
        case measure => simp [intOf]
    · by_cases k1 : k = 1
      · subst k1
        by_cases e1 : kd = 2
        · subst e1
          have HX : Hid (DiAt (wr.alloc (.cells (diC 2 136 2) 85)) O 0 0 0) := HZ.out.below ((Below.refl _ _).alloc (Nat.le_refl _) _)
          have hbx : Below w.heap.size w (wr.alloc (.cells (diC 2 136 2) 85)) := hbel.alloc hbel.size _
          go_wp2_with (first | (refine wpList_index_di (.tmp 6) (.tmp 7) rfl 1 #[.int .i64 2, .int .i64 136, .int .i64 2] (.inr rfl) rfl rfl rfl rfl ?_) | (refine wpList_store_di (.tmp 2) (.tmp 14) rfl rfl O 0 0 0 2 136 2 rfl rfl HX.out rfl ?_))
          intro wE hRE kE
          have HRE : Hid (DiAt wE O 2 136 2) := hRE
          have HFE : Hid (Below w.heap.size w wE) := hbx.trans (kE.below (fun q e => by have e' : q = O := e; have := HO.out; omega) hbx.size)
          clear hRE kE
          go_wp2
          (try simp only [Exit.inBlock, Exit.then])
          refine bodyPost_ret (results_di_tmp rfl _ _ O 2 136 2 rfl HRE.out) rfl ?_
          exact ⟨rfl, HFE.out⟩
        · have e1' : ((2 : Int) == kd) = false := by rw [beq_eq_false_iff_ne]; omega
          have HX : Hid (DiAt (wr.alloc (.cells (diC 2 136 2) 85)) O 0 0 0) := HZ.out.below ((Below.refl _ _).alloc (Nat.le_refl _) _)
          have hbx : Below w.heap.size w (wr.alloc (.cells (diC 2 136 2) 85)) := hbel.alloc hbel.size _
          have HE1 : Hid (kd ≠ 2) := e1
          clear e1
          go_wp2_with (first | (refine wpList_index_di (.tmp 6) (.tmp 7) rfl 1 #[.int .i64 2, .int .i64 136, .int .i64 2] (.inr rfl) rfl rfl rfl rfl ?_))
          go_roundw
          case rel => exact ⟨2, by omega, rfl, (fun _ => H1.out (by omega)), (fun _ => HE1.out), HX.out, hbx⟩
          case measure => simp [intOf]
      · have e2 : k = 2 := by omega
        subst e2
        have n1 := H1.out (by omega)
        have n2 := H2.out (by omega)
        have HD : Hid (diOf kd = diC 0 0 0 ∧ isK kd = false) := ⟨by unfold diOf; rw [if_neg n1, if_neg n2], by unfold isK; rw [decide_eq_false (by omega)]⟩
        clear n1 n2 k0 k1
        go_wp2_with (first | (refine wpList_store_di (.tmp 2) (.tmp 16) rfl rfl O 0 0 0 0 0 0 rfl rfl HZ.out rfl ?_))
        intro wE hRE kE
        have HRE : Hid (DiAt wE O 0 0 0) := hRE
        have HFE : Hid (Below w.heap.size w wE) := hbel.trans (kE.below (fun q e => by have e' : q = O := e; have := HO.out; omega) hbel.size)
        clear hRE kE
        go_wp2
        (try simp only [Exit.inBlock, Exit.then])
        refine bodyPost_ret (results_di_tmp rfl _ _ O 0 0 0 rfl HRE.out) rfl ?_
        exact ⟨by rw [HD.out.1, HD.out.2]; rfl, HFE.out⟩
end Go.Proofs.YtijipfciimcnpaaDoor
