/-
  FPr FBk1: lemmas of the proof of FlowPlays, and walks through the functions that it calls.
-/
import Derived.Test.YtclpeepnngegaaaGreatDoorP00
import Derived.Test.YtclpeepnngegaaaGreatDoorP35
import Derived.Test.YtclpeepnngegaaaGreatDoorP36
namespace Go.Proofs.YtclpeepnngegaaaGreatDoor
open Go.RowKit Go.Maps
structure XV where
  p : Option Addr
  c : CF
  a : Option Addr
  n : Nat
  k : Nat
  y : TU
def prC (x : XV) : Array Value := #[.pointer x.p, .int .i64 x.c.mx, .int .i64 x.c.oV, .int .u8 (x.c.o 0 : Nat), .int .u8 (x.c.o 1 : Nat), .int .u8 (x.c.o 2 : Nat), .int .u8 (x.c.o 3 : Nat), .int .u8 (x.c.o 4 : Nat), .int .u8 (x.c.o 5 : Nat), .int .u8 (x.c.o 6 : Nat), .int .u8 (x.c.o 7 : Nat), .int .u8 (x.c.o 8 : Nat), .int .u8 (x.c.o 9 : Nat), .int .u8 (x.c.o 10 : Nat), .int .u8 (x.c.o 11 : Nat), .int .u8 (x.c.o 12 : Nat), .int .u8 (x.c.o 13 : Nat), .int .u8 (x.c.o 14 : Nat), .int .u8 (x.c.o 15 : Nat), .int .i64 x.c.lo, .int .i64 x.c.hi, .int .i64 x.c.sy, .int .i64 x.c.tc, .int .i64 x.c.fi, .int .i64 x.c.ud, .int .i64 x.c.ic, .slice x.a x.n x.k, .int .i64 x.y.pr, .int .i64 x.y.sV, .int .u8 (x.y.s 0 : Nat), .int .u8 (x.y.s 1 : Nat), .int .u8 (x.y.s 2 : Nat), .int .u8 (x.y.s 3 : Nat), .int .u8 (x.y.s 4 : Nat), .int .u8 (x.y.s 5 : Nat), .int .u8 (x.y.s 6 : Nat), .int .u8 (x.y.s 7 : Nat), .int .u8 (x.y.s 8 : Nat), .int .u8 (x.y.s 9 : Nat), .int .u8 (x.y.s 10 : Nat), .int .u8 (x.y.s 11 : Nat), .int .u8 (x.y.s 12 : Nat), .int .u8 (x.y.s 13 : Nat), .int .u8 (x.y.s 14 : Nat), .int .u8 (x.y.s 15 : Nat), .int .i64 x.y.dV, .int .u8 (x.y.d 0 : Nat), .int .u8 (x.y.d 1 : Nat), .int .u8 (x.y.d 2 : Nat), .int .u8 (x.y.d 3 : Nat), .int .u8 (x.y.d 4 : Nat), .int .u8 (x.y.d 5 : Nat), .int .u8 (x.y.d 6 : Nat), .int .u8 (x.y.d 7 : Nat), .int .u8 (x.y.d 8 : Nat), .int .u8 (x.y.d 9 : Nat), .int .u8 (x.y.d 10 : Nat), .int .u8 (x.y.d 11 : Nat), .int .u8 (x.y.d 12 : Nat), .int .u8 (x.y.d 13 : Nat), .int .u8 (x.y.d 14 : Nat), .int .u8 (x.y.d 15 : Nat), .int .i64 x.y.sp, .int .i64 x.y.dp]
def pz0 : XV := ⟨none, cz, none, 0, 0, xz⟩
theorem Tryz.size_prv : (Tryz.prog.info? 40).map (·.size) = some 64 := by kernel_rfl
def PrvAt (w : World) (O : Nat) (v : XV) : Prop := w.heap[O]? = some (.cells (prC v) 40 (0, 0))
section
variable {w : World} {O : Nat} {v : XV} (k : PrvAt w O v)
include k
theorem PrvAt.lt : O < w.heap.size := (Array.getElem?_eq_some_iff.1 k).1
theorem PrvAt.ch {S : Nat → Prop} {w' : World} (c : Ch S w w') (hS : ¬ S O) : PrvAt w' O v := (c.block O k.lt hS).trans k
theorem PrvAt.below {w' : World} (c : Below w.heap.size w w') : PrvAt w' O v := (c.block O k.lt).trans k
theorem PrvAt.cell (i : Nat) : w.cell? ⟨O, i, none⟩ = (prC v)[i]? := by unfold PrvAt at k; simp [World.cell?, k]
theorem PrvAt.fz (j : Nat) : w.frozen? ⟨O, j, none⟩ = false := by unfold PrvAt at k; simp [World.frozen?, k]
end
theorem prv_new (w : World) (v : XV) : PrvAt (w.alloc (.cells (prC v) 40)) w.heap.size v := heap_alloc_new _ _
theorem wpList_load_prv {ops : Array Oper} {rest : List Oper} {o : Oper} {a : Act} {w : World} {Q : Exit → Act → World → Prop} (x : Operand) (ho : o.op = .load 40 x) (O : Nat) (v : XV) (hx : a.eval x = .pointer (some ⟨O, 0, none⟩)) (hb : PrvAt w O v)
    (hw : Region.wanted o (yielded ops a.tmps) = true) (hh : wpList Tryz.prog ops Q rest (a.put o.dst (.agg (prC v))) w) : wpList Tryz.prog ops Q (o :: rest) a w := by
  refine wpList_step fun K hK => ?_
  rw [if_pos hw]
  exact wp_load_row 40 x ho O hx _ _ _ _ hb Tryz.underlying40 rfl Tryz.size_prv (hK _ _ hh)
theorem wpList_store_prv {ops : Array Oper} {rest : List Oper} {o : Oper} {a : Act} {w : World} {Q : Exit → Act → World → Prop} (x y : Operand) (ho : o.op = .store 40 x y) (hd : o.dst = none) (O : Nat) (v : XV) (v' : XV) (hx : a.eval x = .pointer (some ⟨O, 0, none⟩)) (hy : a.eval y = .agg (prC v')) (hb : PrvAt w O v)
    (hw : Region.wanted o (yielded ops a.tmps) = true) (hh : ∀ w', PrvAt w' O v' → Ch (fun q => q = O) w w' → wpList Tryz.prog ops Q rest a w') : wpList Tryz.prog ops Q (o :: rest) a w := by
  refine wpList_step fun K hK => ?_
  rw [if_pos hw]
  refine wp_store_row 40 x y ho O (prC v') hx hy _ (prC v) hb Tryz.size_prv rfl (by simp [prC, Value.oneCell']) (hK _ _ ?_)
  rw [hd]
  refine hh _ (setRow_heap w O _ _ _ _ hb) ⟨rfl, rfl, rfl, ?_, ?_⟩
  · simp [World.setRow]
  · intro k hk hne
    simp only [World.setRow]
    rw [Array.getElem?_modify, if_neg (fun e => hne e.symm)]
theorem wpList_alloc_prv {ops : Array Oper} {rest : List Oper} {o : Oper} {a : Act} {w : World} {Q : Exit → Act → World → Prop} (ho : o.op = .alloc 40) (hw : Region.wanted o (yielded ops a.tmps) = true)
    (h : wpList Tryz.prog ops Q rest (a.put o.dst (.pointer (some ⟨w.heap.size, 0, none⟩))) (w.alloc (.cells (prC pz0) 40))) : wpList Tryz.prog ops Q (o :: rest) a w := by
  refine wpList_step fun K hK => ?_
  rw [if_pos hw]
  have hrun : (execOp a.eval o).run Tryz.prog w = .ok (.value (.pointer (some ⟨w.heap.size, 0, none⟩))) (w.alloc (.cells (prC pz0) 40)) := by
   obtain ⟨dst, op, type, pos, after, guard⟩ := o
   simp only at ho
   subst ho
   simp only [execOp]
   go_simp
   rfl
  unfold Oper.wp
  rw [hrun]
  exact hK _ _ h
theorem yields_prv {ops : Array Oper} {o : Oper} {a : Act} {S : World → Prop} (x : Operand) (ho : o.op = .load 40 x) (O off : Nat) (v : XV) (hx : a.eval x = .pointer (some ⟨O, off, none⟩)) (hw : Region.wanted o (yielded ops a.tmps) = true) (hS : ∀ w, S w → w.rangeAt O off (prC v).toList) : YieldsIf Tryz.prog ops S o (.agg (prC v)) a :=
 yieldsIf_load_mid hw 40 x ho O off hx (prC v).toList _ hS Tryz.underlying40 rfl Tryz.size_prv
theorem wpList_mid_prv {ops : Array Oper} {rest : List Oper} {o : Oper} {a : Act} {w : World} {Q : Exit → Act → World → Prop} (x : Operand) (ho : o.op = .load 40 x) (O off : Nat) (v : XV) (hx : a.eval x = .pointer (some ⟨O, off, none⟩)) (hb : w.rangeAt O off (prC v).toList)
    (hw : Region.wanted o (yielded ops a.tmps) = true) (h : wpList Tryz.prog ops Q rest (a.put o.dst (.agg (prC v))) w) : wpList Tryz.prog ops Q (o :: rest) a w := by
  refine wpList_step fun K hK => ?_
  rw [if_pos hw]
  exact wp_load_mid 40 x ho O off hx (prC v).toList _ hb Tryz.underlying40 rfl Tryz.size_prv (hK _ _ h)
theorem PrvAt.w {w : World} {O : Nat} {x : XV} (h : PrvAt w O x) : w.rangeAt O 1 (rvC x.c x.a x.n x.k).toList := by
 intro j v hj
 rw [h.cell]
 have hl : j < 26 := (List.getElem?_eq_some_iff.1 hj).1
 have : j = 0 ∨ j = 1 ∨ j = 2 ∨ j = 3 ∨ j = 4 ∨ j = 5 ∨ j = 6 ∨ j = 7 ∨ j = 8 ∨ j = 9 ∨ j = 10 ∨ j = 11 ∨ j = 12 ∨ j = 13 ∨ j = 14 ∨ j = 15 ∨ j = 16 ∨ j = 17 ∨ j = 18 ∨ j = 19 ∨ j = 20 ∨ j = 21 ∨ j = 22 ∨ j = 23 ∨ j = 24 ∨ j = 25 := by omega
 clear hl
 rcases this with rfl | rfl | rfl | rfl | rfl | rfl | rfl | rfl | rfl | rfl | rfl | rfl | rfl | rfl | rfl | rfl | rfl | rfl | rfl | rfl | rfl | rfl | rfl | rfl | rfl | rfl <;> exact hj
theorem PrvAt.t {w : World} {O : Nat} {x : XV} (h : PrvAt w O x) : w.rangeAt O 27 (tuC x.y).toList := by
 intro j v hj
 rw [h.cell]
 have hl : j < 37 := (List.getElem?_eq_some_iff.1 hj).1
 have : j = 0 ∨ j = 1 ∨ j = 2 ∨ j = 3 ∨ j = 4 ∨ j = 5 ∨ j = 6 ∨ j = 7 ∨ j = 8 ∨ j = 9 ∨ j = 10 ∨ j = 11 ∨ j = 12 ∨ j = 13 ∨ j = 14 ∨ j = 15 ∨ j = 16 ∨ j = 17 ∨ j = 18 ∨ j = 19 ∨ j = 20 ∨ j = 21 ∨ j = 22 ∨ j = 23 ∨ j = 24 ∨ j = 25 ∨ j = 26 ∨ j = 27 ∨ j = 28 ∨ j = 29 ∨ j = 30 ∨ j = 31 ∨ j = 32 ∨ j = 33 ∨ j = 34 ∨ j = 35 ∨ j = 36 := by omega
 clear hl
 rcases this with rfl | rfl | rfl | rfl | rfl | rfl | rfl | rfl | rfl | rfl | rfl | rfl | rfl | rfl | rfl | rfl | rfl | rfl | rfl | rfl | rfl | rfl | rfl | rfl | rfl | rfl | rfl | rfl | rfl | rfl | rfl | rfl | rfl | rfl | rfl | rfl | rfl <;> exact hj
theorem PrvAt.all {w : World} {O : Nat} {x : XV} (h : PrvAt w O x) : w.rangeAt O 0 (prC x).toList := by
 intro j v hj
 rw [h.cell, Nat.zero_add]
 simpa using hj
theorem prc_prw (x : XV) (a' : Option Addr) (n' : Nat) (k' : Nat) : ((rvC x.c a' n' k').toList.foldl (fun (p : Array Value × Nat) v => (p.1.setIfInBounds p.2 v, p.2 + 1)) (prC x, 1)).1 = prC { x with a := a', n := n', k := k' } := by kernel_rfl
theorem wpList_store_prw {ops : Array Oper} {rest : List Oper} {o : Oper} {a : Act} {w : World} {Q : Exit → Act → World → Prop} (X Y : Operand) (ho : o.op = .store 36 X Y) (hd : o.dst = none) (O : Nat) (x : XV) (a' : Option Addr) (n' : Nat) (k' : Nat) (hx : a.eval X = .pointer (some ⟨O, 1, none⟩)) (hy : a.eval Y = .agg (rvC x.c a' n' k')) (hb : PrvAt w O x)
    (hw : Region.wanted o (yielded ops a.tmps) = true) (hh : ∀ w', PrvAt w' O { x with a := a', n := n', k := k' } → Ch (fun q => q = O) w w' → wpList Tryz.prog ops Q rest a w') : wpList Tryz.prog ops Q (o :: rest) a w := by
  refine wpList_step fun K hK => ?_
  rw [if_pos hw]
  refine wp_store_mid 36 X Y ho O 1 (rvC x.c a' n' k') hx hy (fun j hj => ⟨?_, hb.fz _⟩) Tryz.size_rvt (by simp [rvC, Value.oneCell']) (hK _ _ ?_)
  · rw [hb.cell, Array.getElem?_eq_getElem (by have h1 : j < 26 := hj; show 1 + j < 64; omega)]
    rfl
  · rw [hd]
    refine hh _ ?_ (ch_setCells w O _ _)
    unfold PrvAt at hb ⊢
    have s : ∀ (vs : List Value) (o : Nat) (w : World) (c : Array Value), w.heap[O]? = some (.cells c 40 (0, 0)) → ∃ c', (w.setCells O o vs).heap[O]? = some (.cells c' 40 (0, 0)) ∧ c' = (vs.foldl (fun (p : Array Value × Nat) v => (p.1.setIfInBounds p.2 v, p.2 + 1)) (c, o)).1 := by
     intro vs
     induction vs with
     | nil => intro o w c h; exact ⟨c, h, rfl⟩
     | cons v vs ih =>
      intro o w c h
      exact ih (o + 1) _ _ (heap_setCell_same w O o _ _ v h)
    obtain ⟨c', h1, h2⟩ := s (rvC x.c a' n' k').toList 1 w _ hb
    rw [h1, h2, prc_prw]
theorem prc_pry (x : XV) (y : TU) : ((tuC y).toList.foldl (fun (p : Array Value × Nat) v => (p.1.setIfInBounds p.2 v, p.2 + 1)) (prC x, 27)).1 = prC { x with y := y } := by kernel_rfl
theorem wpList_store_pry {ops : Array Oper} {rest : List Oper} {o : Oper} {a : Act} {w : World} {Q : Exit → Act → World → Prop} (X Y : Operand) (ho : o.op = .store 38 X Y) (hd : o.dst = none) (O : Nat) (x : XV) (y : TU) (hx : a.eval X = .pointer (some ⟨O, 27, none⟩)) (hy : a.eval Y = .agg (tuC y)) (hb : PrvAt w O x)
    (hw : Region.wanted o (yielded ops a.tmps) = true) (hh : ∀ w', PrvAt w' O { x with y := y } → Ch (fun q => q = O) w w' → wpList Tryz.prog ops Q rest a w') : wpList Tryz.prog ops Q (o :: rest) a w := by
  refine wpList_step fun K hK => ?_
  rw [if_pos hw]
  refine wp_store_mid 38 X Y ho O 27 (tuC y) hx hy (fun j hj => ⟨?_, hb.fz _⟩) Tryz.size_tup (by simp [tuC, Value.oneCell']) (hK _ _ ?_)
  · rw [hb.cell, Array.getElem?_eq_getElem (by have h1 : j < 37 := hj; show 27 + j < 64; omega)]
    rfl
  · rw [hd]
    refine hh _ ?_ (ch_setCells w O _ _)
    unfold PrvAt at hb ⊢
    have s : ∀ (vs : List Value) (o : Nat) (w : World) (c : Array Value), w.heap[O]? = some (.cells c 40 (0, 0)) → ∃ c', (w.setCells O o vs).heap[O]? = some (.cells c' 40 (0, 0)) ∧ c' = (vs.foldl (fun (p : Array Value × Nat) v => (p.1.setIfInBounds p.2 v, p.2 + 1)) (c, o)).1 := by
     intro vs
     induction vs with
     | nil => intro o w c h; exact ⟨c, h, rfl⟩
     | cons v vs ih =>
      intro o w c h
      exact ih (o + 1) _ _ (heap_setCell_same w O o _ _ v h)
    obtain ⟨c', h1, h2⟩ := s (tuC y).toList 27 w _ hb
    rw [h1, h2, prc_pry]
theorem run_prb (p : Option Addr) (c : CF) (a : Option Addr) (n : Nat) (k : Nat) (w : World) : (Instr.build 40 #[(0, .pointer p), (1, .agg (rvC c a n k))]).run Tryz.prog w = .ok (.agg (prC ⟨p, c, a, n, k, xz⟩)) w := by kernel_rfl
theorem wpList_prb {ops : Array Oper} {rest : List Oper} {o : Oper} {a_ : Act} {w : World} {Q : Exit → Act → World → Prop} (y0 y1 : Operand) (ho : o.op = .build 40 #[(0, y0), (1, y1)]) (p : Option Addr) (c : CF) (a : Option Addr) (n : Nat) (k : Nat) (h0 : a_.eval y0 = .pointer p) (h1 : a_.eval y1 = .agg (rvC c a n k)) (hw : Region.wanted o (yielded ops a_.tmps) = true)
    (h : wpList Tryz.prog ops Q rest (a_.put o.dst (.agg (prC ⟨p, c, a, n, k, xz⟩))) w) : wpList Tryz.prog ops Q (o :: rest) a_ w := by
  refine wpList_step fun K hK => ?_
  rw [if_pos hw]
  have hrun : (execOp a_.eval o).run Tryz.prog w = .ok (.value (.agg (prC ⟨p, c, a, n, k, xz⟩))) w := by
   obtain ⟨dst, op, type, pos, after, guard⟩ := o
   simp only at ho
   subst ho
   simp only [execOp, Sem.run_bind, List.map_toArray, List.map_cons, List.map_nil, h0, h1, run_prb p c a n k w, Result.andThen_ok]
   rfl
  unfold Oper.wp
  rw [hrun]
  exact hK _ _ h
theorem results_prv2 {fn : Func} {p u : Tmp} (h : fn.results = #[.cell p 40, .tmp u]) (tmps : Array Value) (w : World) (O : Nat) (x : XV) (hp : tmps.getD p undef = .pointer (some ⟨O, 0, none⟩)) (hb : PrvAt w O x) :
    (results fn tmps).run Tryz.prog w = .ok (.tuple #[.agg (prC x), tmps.getD u undef]) w := by
  have hp' : tmps[p]?.getD undef = .pointer (some ⟨O, 0, none⟩) := by simpa using hp
  simp [results, h, hp', asAddr, run_loadVar_row w O _ 40 (prC x) _ _ hb Tryz.underlying40 rfl Tryz.size_prv]
theorem cf_eq {c : CF} (ho : ∀ i, i < 16 → c.o i < 256) : cfR c = cfB c := by
 have e := class_alike c.oV c.o ho
 rw [Bool.eq_iff_iff]
 unfold cfR cfB agB
 rw [e]
 simp only [Bool.and_eq_true, Bool.or_eq_true, Bool.not_eq_true', decide_eq_false_iff_not, decide_eq_true_eq, beq_iff_eq, inR_iff]
 omega
set_option maxHeartbeats 1600000 in
set_option maxRecDepth 100000 in
theorem made_any (c : CF) (w W : World) (ho : ∀ i, i < 16 → c.o i < 256) (g : Gl W) (bel : Below W.heap.size W w) : Calls Tryz.prog 4 #[.agg (cfC c)] w fun r w' => ∃ x, r = .returned (.tuple #[.agg (prC x), .bool true]) ∧ Below w.heap.size w w' ∧ ((cfB c = true ∧ ∃ t M N, x = ⟨some ⟨t, 0, none⟩, c, none, 0, 0, xz⟩ ∧ FT W t M N c [] w' ∧ ∀ q, TB t M N [] q → w.heap.size ≤ q) ∨ (cfB c = false ∧ x = ⟨none, cz, none, 0, 0, xz⟩)) := by
 have HH : Hid ((∀ i, i < 16 → c.o i < 256) ∧ Gl W ∧ Below W.heap.size W w) := ⟨ho, g, bel⟩
 clear ho g bel
 obtain ⟨Wb, B, HSZX, HOX, HLX, HWX, hb⟩ := zBx w (cfC c) 26
 have HBX : Hid (CfgAt Wb B c) := hb
 obtain ⟨CX, hC⟩ : ∃ C, C = cfC c := ⟨_, rfl⟩
 rw [← hC] at HWX ⊢
 clear hb hC
 obtain ⟨Y, O, -, HOY, HLY, HEY, hb⟩ := zBx Wb (prC pz0) 40
 have HNY : Hid (PrvAt Y O pz0) := hb
 clear hb
 have HNUM : Hid (w.heap.size = B ∧ B < O) := by
  have h1 := HOX.out; have h2 := HSZX.out; have h3 := HOY.out
  exact ⟨by omega, by omega⟩
 have H0 : Hid (CfgAt Y B c ∧ PrvAt Y O pz0 ∧ Below w.heap.size w Y) := ⟨HBX.out.below HLY.out, HNY.out, bthen HLX.out HLY.out⟩
 have QW : Hid _ := new_any c Y HH.out.1 (HH.out.2.1.old (bthen HH.out.2.2 H0.out.2.2)).sp
 go_enter Tryz.func4, Tryz.ntmps4
 go_upto_region 1 with (first | (rw [HOX.out, HWX.out]) | (refine wpList_alloc_prv rfl rfl ?_; rw [HEY.out, HOY.out]))
 go_wp2_with (refine wpList_load_cfg (.tmp 1) rfl B c rfl H0.out.1 rfl ?_)
 refine Calls.mono QW.out ?_
 rintro e1 w1 ⟨b1, ⟨hcf, tt, M, N, rfl, hT, h1, h2, h3⟩ | ⟨hcf, rfl⟩⟩
 · have HCF : Hid (cfB c = true) := hcf
   have HTA : Hid (TA w1 tt M N c [] ∧ ∀ q, TB tt M N [] q → Y.heap.size ≤ q) := ⟨hT, fun q hq => by rcases hq with rfl | rfl | rfl | ⟨_, he, _⟩; exact h1; exact h2; exact h3; cases he⟩
   clear hT h1 h2 h3 QW
   have H1 : Hid (CfgAt w1 B c ∧ PrvAt w1 O pz0 ∧ Below w.heap.size w w1) := ⟨H0.out.1.below b1, H0.out.2.1.below b1, bthen H0.out.2.2 b1⟩
   have QN : Hid (Calls Tryz.prog 11 #[.agg (cfC c)] w1 fun r w' => r = .returned (.tuple #[.agg (rvC c none 0 0), .int .i64 0]) ∧ Below w1.heap.size w1 w') := by
    have h1 := newR_any c w1 HH.out.1
    have h2 : cfR c = cfB c := cf_eq HH.out.1
    unfold nwE at h1
    rw [h2, hcf] at h1
    exact h1
   clear b1 hcf
   go_upto_region 2 with fail
   go_wp2_with (refine wpList_load_cfg (.tmp 1) rfl B c rfl H1.out.1 rfl ?_)
   refine Calls.mono QN.out ?_
   rintro e2 w2 ⟨rfl, b2⟩
   have H2 : Hid (PrvAt w2 O pz0 ∧ Below w1.heap.size w1 w2 ∧ Below w.heap.size w w2) := ⟨H1.out.2.1.below b2, b2, bthen H1.out.2.2 b2⟩
   clear b2 QN
   obtain ⟨Yt, OT, -, HOT, HLT, HET, hb⟩ := zBx w2 (rvC cz none 0 0) 36
   have HNT : Hid (RvtAt Yt OT cz none 0 0) := hb
   clear hb
   go_upto_region 3 with (first | (refine wpList_alloc_rvt rfl rfl ?_; rw [HET.out, HOT.out]) | (refine wpList_store_rvt (.tmp 6) (.tmp 16) rfl rfl OT cz none 0 0 c none 0 0 rfl rfl HNT.out rfl ?_; intro w3 h3 k3))
   have HOT' : Hid (w2.heap.size = OT ∧ O < OT) := ⟨HOT.out, by have h1 := HOT.out; have h2 := H2.out.1.lt; omega⟩
   have H3 : Hid (PrvAt w3 O pz0 ∧ RvtAt w3 OT c none 0 0 ∧ Below w1.heap.size w1 w3 ∧ Below w.heap.size w w3) := by
    have b3 : Below w2.heap.size w2 w3 := HLT.out.trans (k3.below (fun q hq => by have e' : q = OT := hq; have := HOT'.out; omega) HLT.out.size)
    exact ⟨H2.out.1.below b3, h3, bthen H2.out.2.1 b3, bthen H2.out.2.2 b3⟩
   clear h3 k3
   go_wp2_with (first | (refine wpList_load_rvt (.tmp 6) rfl OT c none 0 0 rfl H3.out.2.1 rfl ?_) | (refine wpList_prb (.tmp 18) (.tmp 19) rfl (some ⟨tt, 0, none⟩) c none 0 0 rfl rfl rfl ?_) | (refine wpList_store_prv (.tmp 2) (.tmp 20) rfl rfl O pz0 ⟨(some ⟨tt, 0, none⟩), c, none, 0, 0, xz⟩ rfl rfl H3.out.1 rfl ?_))
   intro w4 h4 k4
   have b41 : Below w.heap.size w w4 := H3.out.2.2.2.trans (k4.below (fun q hq => by have e' : q = O := hq; have := HNUM.out; omega) H3.out.2.2.2.size)
   go_wp2_with fail
   refine bodyPost_ret (results_prv2 rfl _ _ O _ rfl h4) rfl ?_
   have b14 : Ch (fun q => q = O) w1 w4 := (Ch.ofBelow H3.out.2.2.1).trans k4 (fun _ _ q => q)
   have HFA : ∀ q, TB tt M N [] q → w.heap.size ≤ q ∧ q ≠ O := fun q hq => by have h1 := HTA.out.2 q hq; have h2 := H0.out.2.1.lt; have h3 := H0.out.2.2.size; exact ⟨by omega, by omega⟩
   have hok := cfB_ok HCF.out HH.out.1
   exact ⟨_, rfl, b41, .inl ⟨HCF.out, tt, M, N, rfl, ⟨HTA.out.1.ch b14 (fun q h1 h2 => (HFA q h1).2 h2), hok, by have := hok.mx; simp; omega, fun e he => (by cases he), fun e he => (by cases he), bthen HH.out.2.2 b41, fun q hq => Nat.le_trans HH.out.2.2.size (HFA q hq).1⟩, fun q hq => (HFA q hq).1⟩⟩
 · have HCF : Hid (cfB c = false) := hcf
   clear QW
   have H1 : Hid (CfgAt w1 B c ∧ PrvAt w1 O pz0 ∧ Below w.heap.size w w1) := ⟨H0.out.1.below b1, H0.out.2.1.below b1, bthen H0.out.2.2 b1⟩
   have QN : Hid (Calls Tryz.prog 11 #[.agg (cfC c)] w1 fun r w' => r = .returned (.tuple #[.agg (rvC cz none 0 0), .int .i64 177]) ∧ Below w1.heap.size w1 w') := by
    have h1 := newR_any c w1 HH.out.1
    have h2 : cfR c = cfB c := cf_eq HH.out.1
    unfold nwE at h1
    rw [h2, hcf] at h1
    exact h1
   clear b1 hcf
   go_upto_region 2 with fail
   go_wp2_with (refine wpList_load_cfg (.tmp 1) rfl B c rfl H1.out.1 rfl ?_)
   refine Calls.mono QN.out ?_
   rintro e2 w2 ⟨rfl, b2⟩
   have H2 : Hid (PrvAt w2 O pz0 ∧ Below w1.heap.size w1 w2 ∧ Below w.heap.size w w2) := ⟨H1.out.2.1.below b2, b2, bthen H1.out.2.2 b2⟩
   clear b2 QN
   obtain ⟨Yt, OT, -, HOT, HLT, HET, hb⟩ := zBx w2 (rvC cz none 0 0) 36
   have HNT : Hid (RvtAt Yt OT cz none 0 0) := hb
   clear hb
   go_upto_region 3 with (first | (refine wpList_alloc_rvt rfl rfl ?_; rw [HET.out, HOT.out]) | (refine wpList_store_rvt (.tmp 6) (.tmp 16) rfl rfl OT cz none 0 0 cz none 0 0 rfl rfl HNT.out rfl ?_; intro w3 h3 k3))
   have HOT' : Hid (w2.heap.size = OT ∧ O < OT) := ⟨HOT.out, by have h1 := HOT.out; have h2 := H2.out.1.lt; omega⟩
   have H3 : Hid (PrvAt w3 O pz0 ∧ RvtAt w3 OT cz none 0 0 ∧ Below w1.heap.size w1 w3 ∧ Below w.heap.size w w3) := by
    have b3 : Below w2.heap.size w2 w3 := HLT.out.trans (k3.below (fun q hq => by have e' : q = OT := hq; have := HOT'.out; omega) HLT.out.size)
    exact ⟨H2.out.1.below b3, h3, bthen H2.out.2.1 b3, bthen H2.out.2.2 b3⟩
   clear h3 k3
   go_wp2_with (first | (refine wpList_load_rvt (.tmp 6) rfl OT cz none 0 0 rfl H3.out.2.1 rfl ?_) | (refine wpList_prb (.tmp 18) (.tmp 19) rfl none cz none 0 0 rfl rfl rfl ?_) | (refine wpList_store_prv (.tmp 2) (.tmp 20) rfl rfl O pz0 ⟨none, cz, none, 0, 0, xz⟩ rfl rfl H3.out.1 rfl ?_))
   intro w4 h4 k4
   have b41 : Below w.heap.size w w4 := H3.out.2.2.2.trans (k4.below (fun q hq => by have e' : q = O := hq; have := HNUM.out; omega) H3.out.2.2.2.size)
   go_wp2_with fail
   refine bodyPost_ret (results_prv2 rfl _ _ O _ rfl h4) rfl ?_
   exact ⟨_, rfl, b41, .inr ⟨HCF.out, rfl⟩⟩
end Go.Proofs.YtclpeepnngegaaaGreatDoor
namespace Go.Proofs.YtclpeepnngegaaaGreatDoor
open Go.RowKit Go.Maps
theorem apartT {w : World} {B B' sz sz' : Nat} {e e' : TypeId} {v v' : Value} {n n' : Nat} {xs xs' : List Value} (h : w.ownsRow B e sz v n xs) (h' : w.ownsRow B' e' sz' v' n' xs') (hne : e ≠ e') : ∀ g, v.ownBlock = some g → ¬ v'.ownBlock = some g := by
 intro g hg hg'
 rcases h.2 with ⟨rfl, _⟩ | ⟨q, cap, cur, rfl, _, hh, _⟩
 · simp [Value.ownBlock] at hg
 · rcases h'.2 with ⟨rfl, _⟩ | ⟨q', cap', cur', rfl, _, hh', _⟩
   · simp [Value.ownBlock] at hg'
   · simp only [Value.ownBlock, Option.some.injEq] at hg hg'
     subst hg
     subst hg'
     rw [hh] at hh'
     simp only [Option.some.injEq, Obj.cells.injEq] at hh'
     exact hne hh'.2.1
theorem cell_ne (w : World) (gb j i : Nat) (v : Value) (h : i ≠ j) : (w.setCell ⟨gb, j, none⟩ v).cell? ⟨gb, i, none⟩ = w.cell? ⟨gb, i, none⟩ := World.cell?_setCell_other _ _ _ _ (by simp only [ne_eq, Addr.mk.injEq, true_and, and_true]; omega)
theorem drew_below {a : Nat} {w w' : World} (h : Below a w w') : Below a w w'.drew := ⟨h.os, h.tape, h.output, h.size, h.block⟩
def mkN (m : Int) : FN := ⟨xz, m, 0, 0⟩
def mkF (m : Int) : List Value := (flC (mkN m)).toList
structure BV where
  hl : Value
  hn : Value
  G : List (Value × Nat × Int)
  Mg : List Int
def gOk (w : World) (r : Value × Nat × Int) : Prop := w.ownsRow 0 72 40 r.1 r.2.1 (rep r.2.1 (mkF r.2.2))
def BB (K : Nat) (b : BV) (x : Nat) : Prop := x = K ∨ b.hl.ownBlock = some x ∨ b.hn.ownBlock = some x ∨ (∃ r, r ∈ b.G ∧ r.1.ownBlock = some x)
structure BkM (w : World) (K : Nat) (b : BV) : Prop where
  c0 : w.cell? ⟨K, 0, none⟩ = some b.hl
  c1 : w.cell? ⟨K, 1, none⟩ = some b.hn
  fz : ∀ j, w.frozen? ⟨K, j, none⟩ = false
  og : w.ownsRow 0 34 1 b.hl b.G.length (b.G.map (fun r => r.1))
  on : w.ownsRow 0 3 1 b.hn b.Mg.length (b.Mg.map (fun x : Int => Value.int .i64 x))
  eg : ∀ r, r ∈ b.G → gOk w r
  nK : ∀ q, (b.hl.ownBlock = some q ∨ b.hn.ownBlock = some q ∨ (∃ r, r ∈ b.G ∧ r.1.ownBlock = some q)) → q ≠ K
section
variable {w : World} {K : Nat} {b : BV} (h : BkM w K b)
include h
theorem BkM.lt : ∀ x, BB K b x → x < w.heap.size := by
 rintro x (rfl | hx | hx | ⟨r, hr, hx⟩)
 · exact World.block_lt_of_cell? w ⟨x, 0, none⟩ h.c0
 · exact (h.og.lt x hx).2
 · exact (h.on.lt x hx).2
 · exact ((h.eg r hr).lt x hx).2
theorem BkM.ch {T : Nat → Prop} {w' : World} (k : Ch T w w') (hT : ∀ x, BB K b x → ¬ T x) : BkM w' K b where
 c0 := k.cell h.c0 (hT K (.inl rfl))
 c1 := k.cell h.c1 (hT K (.inl rfl))
 fz := fun j => (k.frozen (p := ⟨K, j, none⟩) (h.lt K (.inl rfl)) (hT K (.inl rfl))).trans (h.fz j)
 og := k.owns h.og (fun g hg => hT g (.inr (.inl hg)))
 on := k.owns h.on (fun g hg => hT g (.inr (.inr (.inl hg))))
 eg := fun r hr => k.owns (h.eg r hr) (fun g hg => hT g (.inr (.inr (.inr ⟨r, hr, hg⟩))))
 nK := h.nK
theorem BkM.below {w' : World} (k : Below w.heap.size w w') : BkM w' K b := h.ch (Ch.ofBelow (S := fun _ => False) k) (fun _ _ => id)
theorem BkM.setG {w1 : World} (c : Ch (fun q => b.hl.ownBlock = some q) w w1) (u : Value) (G' : List (Value × Nat × Int)) (ho : w1.ownsRow 0 34 1 u G'.length (G'.map (fun r => r.1)))
    (hn : ∀ q, u.ownBlock = some q → b.hl.ownBlock = some q ∨ w.heap.size ≤ q) (he : ∀ r, r ∈ G' → gOk w1 r) (hK : ∀ r, r ∈ G' → r.1.ownBlock ≠ some K) : BkM (w1.setCell ⟨K, 0, none⟩ u) K { b with hl := u, G := G' } := by
  have hlt := h.lt
  have kK : ¬ b.hl.ownBlock = some K := fun e => h.nK K (.inl e) rfl
  have k2 : Ch (fun q => q = K) w1 (w1.setCell ⟨K, 0, none⟩ u) := (Ch.refl _ w1).set _ _ rfl
  have nK' : u.ownBlock ≠ some K := by
   intro e
   rcases hn K e with k | k
   · exact kK k
   · have := hlt K (.inl rfl); omega
  have cK : ∀ {j : Nat} {z : Value}, w.cell? ⟨K, j, none⟩ = some z → j ≠ 0 → (w1.setCell ⟨K, 0, none⟩ u).cell? ⟨K, j, none⟩ = some z := by
   intro j z hz hj
   rw [cell_ne _ _ _ _ _ hj]
   exact c.cell hz kK
  refine ⟨World.cell?_setCell_same _ _ _ (c.cell h.c0 kK), cK h.c1 (by omega), ?fz, k2.owns ho (fun g hg e => nK' (by rw [← e]; exact hg)), k2.owns (c.owns h.on (fun g hg e => apartT h.og h.on (by decide) g e hg)) (fun g hg e => h.nK g (.inr (.inl hg)) e), fun r hr => k2.owns (he r hr) (fun g hg e => hK r hr (by rw [← e]; exact hg)), ?nk⟩
  case fz =>
   intro j
   rw [World.frozen?_setCell]
   exact (c.frozen (p := ⟨K, j, none⟩) (hlt K (.inl rfl)) kK).trans (h.fz j)
  case nk =>
   intro q hq e
   subst e
   rcases hq with hq | hq | ⟨r, hr, hq⟩
   · exact nK' hq
   · exact h.nK _ (.inr (.inl hq)) rfl
   · exact hK r hr hq
theorem BkM.setN {w1 : World} (c : Ch (fun q => b.hn.ownBlock = some q) w w1) (u : Value) (Mg' : List Int) (ho : w1.ownsRow 0 3 1 u Mg'.length (Mg'.map (fun x : Int => Value.int .i64 x)))
    (hn : ∀ q, u.ownBlock = some q → b.hn.ownBlock = some q ∨ w.heap.size ≤ q) : BkM (w1.setCell ⟨K, 1, none⟩ u) K { b with hn := u, Mg := Mg' } := by
  have hlt := h.lt
  have kK : ¬ b.hn.ownBlock = some K := fun e => h.nK K (.inr (.inl e)) rfl
  have k2 : Ch (fun q => q = K) w1 (w1.setCell ⟨K, 1, none⟩ u) := (Ch.refl _ w1).set _ _ rfl
  have nK' : u.ownBlock ≠ some K := by
   intro e
   rcases hn K e with k | k
   · exact kK k
   · have := hlt K (.inl rfl); omega
  have cK : ∀ {j : Nat} {z : Value}, w.cell? ⟨K, j, none⟩ = some z → j ≠ 1 → (w1.setCell ⟨K, 1, none⟩ u).cell? ⟨K, j, none⟩ = some z := by
   intro j z hz hj
   rw [cell_ne _ _ _ _ _ hj]
   exact c.cell hz kK
  refine ⟨cK h.c0 (by omega), World.cell?_setCell_same _ _ _ (c.cell h.c1 kK), ?fz, k2.owns (c.owns h.og (fun g hg e => apartT h.on h.og (by decide) g e hg)) (fun g hg e => h.nK g (.inl hg) e), k2.owns ho (fun g hg e => nK' (by rw [← e]; exact hg)), fun r hr => k2.owns (c.owns (h.eg r hr) (fun g hg e => apartT h.on (h.eg r hr) (by decide) g e hg)) (fun g hg e => h.nK g (.inr (.inr ⟨r, hr, hg⟩)) e), ?nk⟩
  case fz =>
   intro j
   rw [World.frozen?_setCell]
   exact (c.frozen (p := ⟨K, j, none⟩) (hlt K (.inl rfl)) kK).trans (h.fz j)
  case nk =>
   intro q hq e
   subst e
   rcases hq with hq | hq | ⟨r, hr, hq⟩
   · exact h.nK _ (.inl hq) rfl
   · exact nK' hq
   · exact h.nK _ (.inr (.inr ⟨r, hr, hq⟩)) rfl
end
structure ByS (w0 : World) (BK : Nat) (b : BV) (e : TypeId) (mk : List Value) (lv : Value) (n T : Nat) (F : List (Value × Nat)) (A : List (Nat × Nat)) (W : World) : Prop where
  fy : Fy W 0 e mk lv n T F
  bk : BkM W BK b
  ch : Ch (fun q => lv.ownBlock = some q) w0 W
  al : ∀ p, p ∈ A → (∀ j u, (rep p.2 mk)[j]? = some u → W.cell? ⟨p.1, j, none⟩ = some u) ∧ lv.ownBlock ≠ some p.1
  nb : ∀ q, lv.ownBlock = some q → ¬ BB BK b q
  fn : ∀ r, r ∈ F → ∀ q, r.1.ownBlock = some q → lv.ownBlock = some q ∨ w0.heap.size ≤ q
section
variable {w0 : World} {BK : Nat} {b : BV} {e : TypeId} {mk : List Value} {lv : Value} {n T : Nat} {F : List (Value × Nat)} {A : List (Nat × Nat)} {W : World} (h : ByS w0 BK b e mk lv n T F A W)
include h
theorem ByS.below {w' : World} (k : Below W.heap.size W w') : ByS w0 BK b e mk lv n T F A w' := by
 refine ⟨h.fy.below k, h.bk.below k, h.ch.trans (Ch.ofBelow (S := fun _ => False) k) (fun _ _ q => q.elim), fun p hp => ⟨fun j u hu => ?_, (h.al p hp).2⟩, h.nb, h.fn⟩
 have := (h.al p hp).1 j u hu
 exact (World.cell?_of_block (k.block p.1 (World.block_lt_of_cell? W _ this))).trans this
theorem ByS.new (k : Nat) (cs : Array Value) (t : TypeId) (hcs : cs.toList = rep k mk) : ByS w0 BK b e mk lv n T F ((W.heap.size, k) :: A) (W.alloc (.cells cs t)) := by
 have hb : Below W.heap.size W (W.alloc (.cells cs t)) := (Below.refl _ _).alloc (Nat.le_refl _) _
 have h1 := h.below hb
 refine ⟨h1.fy, h1.bk, h1.ch, ?_, h1.nb, h1.fn⟩
 intro p hp
 rcases List.mem_cons.1 hp with rfl | hp
 · refine ⟨fun j u hu => ?_, fun q => ?_⟩
   · rw [World.cell?_alloc_at _ _ _ _ rfl, ← Array.getElem?_toList, hcs]
     exact hu
   · have := (h.fy.own.lt _ q).2
     simp only at this
     omega
 · exact h1.al p hp
theorem ByS.app {w' : World} {m : Nat} {v' : Value} (f1 : Fy w' 0 e mk lv n m (F ++ [(v', n + m)])) (f2 : Ch (fun q => lv.ownBlock = some q) W w') (f3 : ∀ q, v'.ownBlock = some q → lv.ownBlock = some q ∨ W.heap.size ≤ q) : ByS w0 BK b e mk lv n m (F ++ [(v', n + m)]) A w' := by
 refine ⟨f1, h.bk.ch f2 (fun x hx q => h.nb x q hx), h.ch.trans f2 (fun _ _ q => q), fun p hp => ⟨fun j u hu => f2.cell ((h.al p hp).1 j u hu) (h.al p hp).2, (h.al p hp).2⟩, h.nb, ?_⟩
 intro r hr q hq
 rcases List.mem_append.1 hr with k | k
 · exact h.fn r k q hq
 · rw [List.mem_singleton.1 k] at hq
   rcases f3 q hq with z | z
   · exact .inl z
   · exact .inr (Nat.le_trans h.ch.size z)
theorem ByS.news {X k : Nat} (hp : (X, k) ∈ A) : ∀ j u, (rep k mk)[j]? = some u → W.cell? ((⟨X, 0, none⟩ : Addr).add j) = some u := by
 intro j u hu
 rw [Addr.add_lit, Nat.zero_add]
 exact (h.al _ hp).1 j u hu
theorem ByS.weak {F' : List (Value × Nat)} {A' : List (Nat × Nat)} (hF : ∀ r, r ∈ F' → r ∈ F) (hA : ∀ p, p ∈ A' → p ∈ A) : ByS w0 BK b e mk lv n T F' A' W :=
 ⟨⟨h.fy.own, fun r hr => h.fy.mem r (hF r hr)⟩, h.bk, h.ch, fun p hp => h.al p (hA p hp), h.nb, fun r hr => h.fn r (hF r hr)⟩
end
theorem fourW (w : World) (x y z t : Value) (T : TypeId) : ∀ j u, ([x, y, z, t] : List Value)[j]? = some u → (w.alloc (.cells #[x, y, z, t] T)).cell? ((⟨w.heap.size, 0, none⟩ : Addr).add j) = some u := by
 intro j u hu
 rw [Addr.add_lit, Nat.zero_add, World.cell?_alloc_at _ _ _ _ rfl]
 simpa using hu
theorem res_gaps {w W W' : World} {BK n N T : Nat} {m : Int} {b : BV} {lv : Value} {F : List (Value × Nat)} {A : List (Nat × Nat)} {ba : Option Addr} {bc : Nat} (H : ByS w BK b 72 (mkF m) lv n T F A W) (hlt : ∀ x, BB BK b x → x < w.heap.size) (hbv : b.hl = .slice ba N bc) (hN : b.G.length = N) {u : Value} (vs : List (Value × Nat)) (hvs : ∀ r, r ∈ vs → r = (lv, n) ∨ r ∈ F)
    (r1 : W'.ownsRow 0 34 1 u (N + vs.length) (b.G.map (fun r => r.1) ++ vs.map (fun r => r.1))) (r2 : W.grownBy W' (Value.slice ba N bc).ownBlock) (r4 : u.ownBlock = (Value.slice ba N bc).ownBlock ∨ u.ownBlock = some W.heap.size) :
    BkM (W'.setCell ⟨BK, 0, none⟩ u) BK { b with hl := u, G := b.G ++ vs.map (fun r => (r.1, r.2, m)) } ∧ Ch (fun x => BB BK b x ∨ lv.ownBlock = some x) w (W'.setCell ⟨BK, 0, none⟩ u) ∧ (∀ x, BB BK { b with hl := u, G := b.G ++ vs.map (fun r => (r.1, r.2, m)) } x → BB BK b x ∨ lv.ownBlock = some x ∨ w.heap.size ≤ x) := by
  have cc : Ch (fun q => b.hl.ownBlock = some q) W W' := (Ch.ofGrown r2).mono (fun x _ q => by rw [hbv]; exact q)
  have hme : ∀ r, r ∈ vs → W.ownsRow 0 72 40 r.1 r.2 (rep r.2 (mkF m)) ∧ ∀ q, r.1.ownBlock = some q → lv.ownBlock = some q ∨ w.heap.size ≤ q := by
   intro r hr
   rcases hvs r hr with rfl | k
   · exact ⟨H.fy.own, fun q hq => .inl hq⟩
   · exact ⟨(H.fy.mem r k).1, H.fn r k⟩
  have hmb : ∀ r, r ∈ vs → ∀ q, r.1.ownBlock = some q → ¬ BB BK b q := by
   intro r hr q hq z
   rcases (hme r hr).2 q hq with k | k
   · exact H.nb q k z
   · have := hlt q z; omega
  have hn : ∀ q, u.ownBlock = some q → b.hl.ownBlock = some q ∨ W.heap.size ≤ q := by
   intro q hq
   rcases r4 with k | k
   · exact .inl (by rw [hbv, ← k]; exact hq)
   · rw [k] at hq
     simp only [Option.some.injEq] at hq
     exact .inr (by omega)
  refine ⟨H.bk.setG cc u (b.G ++ vs.map (fun r => (r.1, r.2, m))) ?_ hn ?_ ?_, ?_, ?_⟩
  · rw [List.length_append, hN, List.length_map, List.map_append, List.map_map]
    exact r1
  · intro r hr
    rcases List.mem_append.1 hr with k | k
    · exact cc.owns (H.bk.eg r k) (fun g hg e => apartT H.bk.og (H.bk.eg r k) (by decide) g e hg)
    · obtain ⟨x, hx, rfl⟩ := List.mem_map.1 k
      exact cc.owns (hme x hx).1 (fun g hg e => apartT H.bk.og (hme x hx).1 (by decide) g e hg)
  · intro r hr e
    rcases List.mem_append.1 hr with k | k
    · exact H.bk.nK BK (.inr (.inr ⟨r, k, e⟩)) rfl
    · obtain ⟨x, hx, rfl⟩ := List.mem_map.1 k
      exact hmb x hx BK e (.inl rfl)
  · refine ((H.ch.mono (T := fun x => BB BK b x ∨ lv.ownBlock = some x) (fun x _ q => .inr q)).trans cc (fun x _ q => .inl (.inr (.inl q)))).trans ((Ch.refl (fun q => q = BK) W').set ⟨BK, 0, none⟩ u rfl) (fun x _ q => .inl (.inl q))
  · have hsz := H.ch.size
    rintro x (rfl | hx | hx | ⟨r, hr, hx⟩)
    · exact .inl (.inl rfl)
    · rcases hn x hx with k | k
      · exact .inl (.inr (.inl k))
      · exact .inr (.inr (by omega))
    · exact .inl (.inr (.inr (.inl hx)))
    · rcases List.mem_append.1 hr with k | k
      · exact .inl (.inr (.inr (.inr ⟨r, k, hx⟩)))
      · obtain ⟨y, hy, rfl⟩ := List.mem_map.1 k
        exact .inr ((hme y hy).2 x hx)
theorem res_marksG {W W' : World} {BK N : Nat} {b : BV} {ba : Option Addr} {bc : Nat} (h : BkM W BK b) (hbv : b.hn = .slice ba N bc) (hN : b.Mg.length = N) {u : Value} (ms : List Int)
    (r1 : W'.ownsRow 0 3 1 u (N + ms.length) (b.Mg.map (fun x : Int => Value.int .i64 x) ++ ms.map (fun x : Int => Value.int .i64 x))) (r2 : W.grownBy W' (Value.slice ba N bc).ownBlock) (r4 : u.ownBlock = (Value.slice ba N bc).ownBlock ∨ u.ownBlock = some W.heap.size) :
    BkM (W'.setCell ⟨BK, 1, none⟩ u) BK { b with hn := u, Mg := b.Mg ++ ms } ∧ Ch (BB BK b) W (W'.setCell ⟨BK, 1, none⟩ u) ∧ (∀ x, BB BK { b with hn := u, Mg := b.Mg ++ ms } x → BB BK b x ∨ W.heap.size ≤ x) := by
  have cc : Ch (fun q => b.hn.ownBlock = some q) W W' := (Ch.ofGrown r2).mono (fun x _ q => by rw [hbv]; exact q)
  have hn : ∀ q, u.ownBlock = some q → b.hn.ownBlock = some q ∨ W.heap.size ≤ q := by
   intro q hq
   rcases r4 with k | k
   · exact .inl (by rw [hbv, ← k]; exact hq)
   · rw [k] at hq
     simp only [Option.some.injEq] at hq
     exact .inr (by omega)
  refine ⟨h.setN cc u (b.Mg ++ ms) ?_ hn, ?_, ?_⟩
  · rw [List.length_append, hN, List.map_append]
    exact r1
  · exact (cc.mono (T := BB BK b) (fun x _ q => .inr (.inr (.inl q)))).trans ((Ch.refl (fun q => q = BK) W').set ⟨BK, 1, none⟩ u rfl) (fun x _ q => .inl q)
  · rintro x (rfl | hx | hx | hx)
    · exact .inl (.inl rfl)
    · exact .inl (.inr (.inl hx))
    · rcases hn x hx with k | k
      · exact .inl (.inr (.inr (.inl k)))
      · exact .inr k
    · exact .inl (.inr (.inr (.inr hx)))
end Go.Proofs.YtclpeepnngegaaaGreatDoor
