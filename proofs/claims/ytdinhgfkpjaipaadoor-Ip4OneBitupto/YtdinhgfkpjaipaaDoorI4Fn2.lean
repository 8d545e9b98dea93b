/-
  A datagram's value in memory; fragmentMayBe, fieldsMayBe.
-/
import Derived.Test.YtdinhgfkpjaipaaDoorI4Fn1
import Derived.Test.YtdinhgfkpjaipaaDoorPSplit
import Derived.Deep.MidRow
namespace Go.Proofs.YtdinhgfkpjaipaaDoor
open Go.RowKit
open I4 (H4)

/-- its cells; the options' list, the data -/
def h4C (h : H4) (ol dl : Value) : Array Value := #[.int .i64 h.tos, .int .i64 h.id, .bool h.df, .bool h.mf, .int .i64 h.off, .int .i64 h.ttl, .int .i64 h.proto, .int .i64 h.sv, .int .u8 (h.sx 0 : Nat), .int .u8 (h.sx 1 : Nat), .int .u8 (h.sx 2 : Nat), .int .u8 (h.sx 3 : Nat), .int .u8 (h.sx 4 : Nat), .int .u8 (h.sx 5 : Nat), .int .u8 (h.sx 6 : Nat), .int .u8 (h.sx 7 : Nat), .int .u8 (h.sx 8 : Nat), .int .u8 (h.sx 9 : Nat), .int .u8 (h.sx 10 : Nat), .int .u8 (h.sx 11 : Nat), .int .u8 (h.sx 12 : Nat), .int .u8 (h.sx 13 : Nat), .int .u8 (h.sx 14 : Nat), .int .u8 (h.sx 15 : Nat), .int .i64 h.dv, .int .u8 (h.dx 0 : Nat), .int .u8 (h.dx 1 : Nat), .int .u8 (h.dx 2 : Nat), .int .u8 (h.dx 3 : Nat), .int .u8 (h.dx 4 : Nat), .int .u8 (h.dx 5 : Nat), .int .u8 (h.dx 6 : Nat), .int .u8 (h.dx 7 : Nat), .int .u8 (h.dx 8 : Nat), .int .u8 (h.dx 9 : Nat), .int .u8 (h.dx 10 : Nat), .int .u8 (h.dx 11 : Nat), .int .u8 (h.dx 12 : Nat), .int .u8 (h.dx 13 : Nat), .int .u8 (h.dx 14 : Nat), .int .u8 (h.dx 15 : Nat), ol, dl]
theorem h4C_size (h : H4) (ol dl : Value) : (h4C h ol dl).size = 43 := rfl
theorem Tryd.sizeH4 : (Tryd.prog.info? 28).map (·.size) = some 43 := by kernel_rfl
theorem Tryd.sizeIP' : (Tryd.prog.info? 24).map (·.size) = some 17 := by kernel_rfl
/-- it lies in a block of its own -/
def H4At (w : World) (O : Nat) (h : H4) (ol dl : Value) : Prop := w.heap[O]? = some (.cells (h4C h ol dl) 28 (0, 0))
section
variable {w : World} {O : Nat} {h : H4} {ol dl : Value} (k : H4At w O h ol dl)
include k
theorem H4At.lt : O < w.heap.size := (Array.getElem?_eq_some_iff.1 k).1
theorem H4At.ch {S : Nat → Prop} {w' : World} (c : Ch S w w') (hS : ¬ S O) : H4At w' O h ol dl := (c.block O k.lt hS).trans k
theorem H4At.below {w' : World} (c : Below w.heap.size w w') : H4At w' O h ol dl := (c.block O k.lt).trans k
theorem H4At.cell (i : Nat) : w.cell? ⟨O, i, none⟩ = (h4C h ol dl)[i]? := by unfold H4At at k; simp [World.cell?, k]
theorem H4At.c0 : w.cell? ⟨O, 0, none⟩ = some (.int .i64 h.tos) := k.cell 0
theorem H4At.c1 : w.cell? ⟨O, 1, none⟩ = some (.int .i64 h.id) := k.cell 1
theorem H4At.c2 : w.cell? ⟨O, 2, none⟩ = some (.bool h.df) := k.cell 2
theorem H4At.c3 : w.cell? ⟨O, 3, none⟩ = some (.bool h.mf) := k.cell 3
theorem H4At.c4 : w.cell? ⟨O, 4, none⟩ = some (.int .i64 h.off) := k.cell 4
theorem H4At.c5 : w.cell? ⟨O, 5, none⟩ = some (.int .i64 h.ttl) := k.cell 5
theorem H4At.c6 : w.cell? ⟨O, 6, none⟩ = some (.int .i64 h.proto) := k.cell 6
theorem H4At.c41 : w.cell? ⟨O, 41, none⟩ = some ol := k.cell 41
theorem H4At.c42 : w.cell? ⟨O, 42, none⟩ = some dl := k.cell 42
theorem H4At.src : w.rangeAt O 7 (ipCells h.sv h.sx).toList := by
  intro j v hj
  rw [k.cell]
  have hl : j < 17 := (List.getElem?_eq_some_iff.1 hj).1
  have := I4.lt20 (show j < 20 by omega)
  rcases this with rfl | rfl | rfl | rfl | rfl | rfl | rfl | rfl | rfl | rfl | rfl | rfl | rfl | rfl | rfl | rfl | rfl | rfl | rfl | rfl
  all_goals first | exact hj | omega
theorem H4At.dst : w.rangeAt O 24 (ipCells h.dv h.dx).toList := by
  intro j v hj
  rw [k.cell]
  have hl : j < 17 := (List.getElem?_eq_some_iff.1 hj).1
  have := I4.lt20 (show j < 20 by omega)
  rcases this with rfl | rfl | rfl | rfl | rfl | rfl | rfl | rfl | rfl | rfl | rfl | rfl | rfl | rfl | rfl | rfl | rfl | rfl | rfl | rfl
  all_goals first | exact hj | omega
end
theorem h4At_new (w : World) (h : H4) (ol dl : Value) : H4At (w.alloc (.cells (h4C h ol dl) 28)) w.heap.size h ol dl := heap_alloc_new _ _
theorem wpList_load_src {ops : Array Oper} {rest : List Oper} {o : Oper} {a : Act} {w : World} {Q : Exit → Act → World → Prop} (x : Operand) (ho : o.op = .load 24 x) (O off : Nat) (v : Int) (y : Nat → Nat) (hx : a.eval x = .pointer (some ⟨O, off, none⟩)) (hb : w.rangeAt O off (ipCells v y).toList)
    (hw : Region.wanted o (yielded ops a.tmps) = true) (h : wpList Tryd.prog ops Q rest (a.put o.dst (.agg (ipCells v y))) w) : wpList Tryd.prog ops Q (o :: rest) a w := by
  refine wpList_step fun K hK => ?_
  rw [if_pos hw]
  exact wp_load_mid 24 x ho O off hx (ipCells v y).toList _ hb Tryd.underlying24 rfl Tryd.sizeIP' (hK _ _ h)
theorem wpList_load_h4 {ops : Array Oper} {rest : List Oper} {o : Oper} {a : Act} {w : World} {Q : Exit → Act → World → Prop} (x : Operand) (ho : o.op = .load 28 x) (O : Nat) (h : H4) (ol dl : Value) (hx : a.eval x = .pointer (some ⟨O, 0, none⟩)) (hb : H4At w O h ol dl)
    (hw : Region.wanted o (yielded ops a.tmps) = true) (hh : wpList Tryd.prog ops Q rest (a.put o.dst (.agg (h4C h ol dl))) w) : wpList Tryd.prog ops Q (o :: rest) a w := by
  refine wpList_step fun K hK => ?_
  rw [if_pos hw]
  exact wp_load_row 28 x ho O hx _ _ _ _ hb Tryd.underlying28 rfl Tryd.sizeH4 (hK _ _ hh)
theorem wpList_store_h4 {ops : Array Oper} {rest : List Oper} {o : Oper} {a : Act} {w : World} {Q : Exit → Act → World → Prop} (x y : Operand) (ho : o.op = .store 28 x y) (hd : o.dst = none) (O : Nat) (h h' : H4) (ol dl ol' dl' : Value) (hx : a.eval x = .pointer (some ⟨O, 0, none⟩)) (hy : a.eval y = .agg (h4C h' ol' dl')) (h1 : ol'.oneCell' = true) (h2 : dl'.oneCell' = true) (hb : H4At w O h ol dl)
    (hw : Region.wanted o (yielded ops a.tmps) = true) (hh : ∀ w', H4At w' O h' ol' dl' → Ch (fun q => q = O) w w' → wpList Tryd.prog ops Q rest a w') : wpList Tryd.prog ops Q (o :: rest) a w := by
  refine wpList_step fun K hK => ?_
  rw [if_pos hw]
  refine wp_store_row 28 x y ho O (h4C h' ol' dl') hx hy _ (h4C h ol dl) hb Tryd.sizeH4 rfl (by simp [h4C, Value.oneCell']; exact ⟨h1, h2⟩) (hK _ _ ?_)
  rw [hd]
  refine hh _ (setRow_heap w O _ _ _ _ hb) ⟨rfl, rfl, rfl, ?_, ?_⟩
  · simp [World.setRow]
  · intro k hk hne
    simp only [World.setRow]
    rw [Array.getElem?_modify, if_neg (fun e => hne e.symm)]
def h4z : H4 := ⟨0, 0, false, false, 0, 0, 0, 0, fun _ => 0, 0, fun _ => 0, [], []⟩
set_option maxHeartbeats 800000 in
set_option maxRecDepth 100000 in
theorem fragMay_any (h : H4) (ol : Value) (a : Option Addr) (n c : Nat) (w : World) (ho : 0 ≤ h.off ∧ h.off ≤ 65528) (hn : n ≤ 1099511627776) :
    Calls Tryd.prog 56 #[.agg (h4C h ol (.slice a n c))] w fun e w' => e = .returned (.bool (I4.fragOk h.mf h.off n)) ∧ Below w.heap.size w w' := by
  obtain ⟨W, hW⟩ : ∃ W, W = w.alloc (.cells (h4C h ol (.slice a n c)) 28) := ⟨_, rfl⟩
  obtain ⟨O, hO⟩ : ∃ O, O = w.heap.size := ⟨_, rfl⟩
  have bel : Below w.heap.size w W := by rw [hW]; exact (Below.refl _ _).alloc (Nat.le_refl _) _
  have box : H4At W O h ol (.slice a n c) := by rw [hW, hO]; exact h4At_new _ _ _ _
  have c3 := box.c3
  have c4 := box.c4
  have c42 := box.c42
  obtain ⟨C, hC⟩ : ∃ C, C = h4C h ol (.slice a n c) := ⟨_, rfl⟩
  have HW : Hid (w.alloc (.cells C 28) = W) := by rw [hC]; exact hW.symm
  have HO : Hid (w.heap.size = O) := hO.symm
  rw [← hC]
  obtain ⟨f, hf⟩ : ∃ f, f = h.off := ⟨_, rfl⟩
  obtain ⟨m, hm⟩ : ∃ m, m = h.mf := ⟨_, rfl⟩
  rw [← hf] at c4 ho ⊢
  rw [← hm] at c3 ⊢
  obtain ⟨h0, h1⟩ := ho
  clear hW hC hO box hf hm
  have wr : IntKind.i64.wrap (f + (n : Int)) = f + n := by rw [IntKind.wrap_i64]; omega
  have m8 : ((n : Int) % 8 != 0) = decide (n % 8 ≠ 0) := by
    by_cases e : n % 8 = 0
    · rw [decide_eq_false (by omega)]; have : (n : Int) % 8 = 0 := by omega
      rw [this]; rfl
    · rw [decide_eq_true e, bne_iff_ne]; omega
  have n0 : ((n : Int) == 0) = decide (n = 0) := by
    by_cases e : n = 0
    · rw [e]; rfl
    · rw [decide_eq_false e, beq_eq_false_iff_ne]; omega
  cases m with
  | false =>
    go_enter Tryd.func56, Tryd.ntmps56
    go_upto_region 1 with fail
    rw [HW.out, HO.out]
    go_wp2
    go_ret
    exact ⟨by simp [I4.fragOk], bel⟩
  | true =>
    by_cases e0 : n = 0
    · rw [decide_eq_true e0] at n0
      have HE : Hid _ := e0
      clear e0
      go_enter Tryd.func56, Tryd.ntmps56
      go_upto_region 1 with fail
      rw [HW.out, HO.out]
      go_wp2
      go_ret
      exact ⟨by simp [I4.fragOk, HE.out], bel⟩
    · rw [decide_eq_false e0] at n0
      by_cases e8 : n % 8 = 0
      · rw [decide_eq_false (by simpa using e8)] at m8
        have HE : Hid _ := e0
        have HE8 : Hid _ := e8
        clear e0 e8
        go_enter Tryd.func56, Tryd.ntmps56
        go_upto_region 1 with fail
        rw [HW.out, HO.out]
        go_wp2
        go_ret
        have q : ¬ n = 0 := HE.out
        exact ⟨by simp [I4.fragOk, q, HE8.out], bel⟩
      · rw [decide_eq_true e8] at m8
        have HE : Hid _ := e0
        have HE8 : Hid _ := e8
        clear e0 e8
        go_enter Tryd.func56, Tryd.ntmps56
        go_upto_region 1 with fail
        rw [HW.out, HO.out]
        go_wp2
        go_ret
        have q : ¬ n % 8 = 0 := HE8.out
        exact ⟨by simp [I4.fragOk, q], bel⟩
end Go.Proofs.YtdinhgfkpjaipaaDoor
