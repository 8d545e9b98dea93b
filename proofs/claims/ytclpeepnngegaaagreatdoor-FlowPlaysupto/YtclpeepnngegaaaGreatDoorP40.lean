/-
  F7a FSp: lemmas of the proof of FlowPlays, and walks through the functions that it calls.
-/
import Derived.Test.YtclpeepnngegaaaGreatDoorP00
import Derived.Test.YtclpeepnngegaaaGreatDoorP37
import Derived.Test.YtclpeepnngegaaaGreatDoorP39
namespace Go.Proofs.YtclpeepnngegaaaGreatDoor
open Go.RowKit Go.Maps Go.ChangeShapes Go.WideShapes
structure SV where
  kd : Int
  ob : Int
  x : TU
  fl : Int
  n : Int
def stC (s : SV) : Array Value := #[.int .i64 s.kd, .int .i64 s.ob, .int .i64 s.x.pr, .int .i64 s.x.sV, .int .u8 (s.x.s 0 : Nat), .int .u8 (s.x.s 1 : Nat), .int .u8 (s.x.s 2 : Nat), .int .u8 (s.x.s 3 : Nat), .int .u8 (s.x.s 4 : Nat), .int .u8 (s.x.s 5 : Nat), .int .u8 (s.x.s 6 : Nat), .int .u8 (s.x.s 7 : Nat), .int .u8 (s.x.s 8 : Nat), .int .u8 (s.x.s 9 : Nat), .int .u8 (s.x.s 10 : Nat), .int .u8 (s.x.s 11 : Nat), .int .u8 (s.x.s 12 : Nat), .int .u8 (s.x.s 13 : Nat), .int .u8 (s.x.s 14 : Nat), .int .u8 (s.x.s 15 : Nat), .int .i64 s.x.dV, .int .u8 (s.x.d 0 : Nat), .int .u8 (s.x.d 1 : Nat), .int .u8 (s.x.d 2 : Nat), .int .u8 (s.x.d 3 : Nat), .int .u8 (s.x.d 4 : Nat), .int .u8 (s.x.d 5 : Nat), .int .u8 (s.x.d 6 : Nat), .int .u8 (s.x.d 7 : Nat), .int .u8 (s.x.d 8 : Nat), .int .u8 (s.x.d 9 : Nat), .int .u8 (s.x.d 10 : Nat), .int .u8 (s.x.d 11 : Nat), .int .u8 (s.x.d 12 : Nat), .int .u8 (s.x.d 13 : Nat), .int .u8 (s.x.d 14 : Nat), .int .u8 (s.x.d 15 : Nat), .int .i64 s.x.sp, .int .i64 s.x.dp, .int .i64 s.fl, .int .i64 s.n]
def sz : SV := ⟨0, 0, xz, 0, 0⟩
theorem Tryz.size_stp : (Tryz.prog.info? 47).map (·.size) = some 41 := by kernel_rfl
def StpAt (w : World) (O : Nat) (s : SV) : Prop := w.heap[O]? = some (.cells (stC s) 47 (0, 0))
section
variable {w : World} {O : Nat} {s : SV} (k : StpAt w O s)
include k
theorem StpAt.lt : O < w.heap.size := (Array.getElem?_eq_some_iff.1 k).1
theorem StpAt.ch {S : Nat → Prop} {w' : World} (c : Ch S w w') (hS : ¬ S O) : StpAt w' O s := (c.block O k.lt hS).trans k
theorem StpAt.below {w' : World} (c : Below w.heap.size w w') : StpAt w' O s := (c.block O k.lt).trans k
theorem StpAt.cell (i : Nat) : w.cell? ⟨O, i, none⟩ = (stC s)[i]? := by unfold StpAt at k; simp [World.cell?, k]
end
theorem stp_new (w : World) (s : SV) : StpAt (w.alloc (.cells (stC s) 47)) w.heap.size s := heap_alloc_new _ _
theorem yields_stp {ops : Array Oper} {o : Oper} {a : Act} {S : World → Prop} (x : Operand) (ho : o.op = .load 47 x) (O off : Nat) (s : SV) (hx : a.eval x = .pointer (some ⟨O, off, none⟩)) (hw : Region.wanted o (yielded ops a.tmps) = true) (hS : ∀ w, S w → w.rangeAt O off (stC s).toList) : YieldsIf Tryz.prog ops S o (.agg (stC s)) a :=
 yieldsIf_load_mid hw 47 x ho O off hx (stC s).toList _ hS Tryz.underlying47 rfl Tryz.size_stp
theorem StpAt.x {w : World} {O : Nat} {s : SV} (h : StpAt w O s) : w.rangeAt O 2 (tuC s.x).toList := by
 intro j v hj
 rw [h.cell]
 have hl : j < 37 := (List.getElem?_eq_some_iff.1 hj).1
 have : j = 0 ∨ j = 1 ∨ j = 2 ∨ j = 3 ∨ j = 4 ∨ j = 5 ∨ j = 6 ∨ j = 7 ∨ j = 8 ∨ j = 9 ∨ j = 10 ∨ j = 11 ∨ j = 12 ∨ j = 13 ∨ j = 14 ∨ j = 15 ∨ j = 16 ∨ j = 17 ∨ j = 18 ∨ j = 19 ∨ j = 20 ∨ j = 21 ∨ j = 22 ∨ j = 23 ∨ j = 24 ∨ j = 25 ∨ j = 26 ∨ j = 27 ∨ j = 28 ∨ j = 29 ∨ j = 30 ∨ j = 31 ∨ j = 32 ∨ j = 33 ∨ j = 34 ∨ j = 35 ∨ j = 36 := by omega
 clear hl
 rcases this with rfl | rfl | rfl | rfl | rfl | rfl | rfl | rfl | rfl | rfl | rfl | rfl | rfl | rfl | rfl | rfl | rfl | rfl | rfl | rfl | rfl | rfl | rfl | rfl | rfl | rfl | rfl | rfl | rfl | rfl | rfl | rfl | rfl | rfl | rfl | rfl | rfl <;> exact hj
structure SV.Wf (s : SV) : Prop where
  x : s.x.Wf
  fl : (Lit.int .i64 s.fl).wf = true
  n : (Lit.int .i64 s.n).wf = true
def stL (s : SV) : List Value := (stC s).toList
theorem stL_len (s : SV) : (stL s).length = 41 := rfl
theorem cut_at (l : List Value) (a b : Nat) : l.drop a = (l.drop a).take b ++ l.drop (a + b) := by
 have h := (List.take_append_drop b (l.drop a)).symm
 rwa [List.drop_drop] at h
theorem Tryz.cells_ipv' : Tryz.prog.cellsOf 24 = 17 := by kernel_rfl
theorem Tryz.cellsIP' : Tryz.prog.cellsOf 24 = 17 := by kernel_rfl
section
variable {H : Type} {enc : TypeId × Value → H} {W : World}
set_option maxRecDepth 100000 in
theorem open_ipw {fuel : Nat} {cs : List Value} {x : DataW H × List MemPlace} (hf : DataW.trod enc Tryz.prog W 0 (fun _ => true) true fuel 24 cs = some x) : ∃ (V : Int) (y : Nat → Nat), cs = (ipCells V y).toList ∧ (Lit.int .i64 V).wf = true ∧ ∀ i, y i < 256 := by
 obtain ⟨xs, n, _, hx, hl, hlen, hfs⟩ := DataW.trod_struct Tryz.underlying24 hf
 rw [Tryz.cellsIP'] at hl
 have f0 : DataW.trod enc Tryz.prog W 0 (fun _ => true) true n 3 ((cs.drop 0).take (Tryz.prog.cellsOf 3)) = xs[0]? := hfs 0 _ rfl
 have f1 : DataW.trod enc Tryz.prog W 0 (fun _ => true) true n 22 ((cs.drop 1).take (Tryz.prog.cellsOf 22)) = xs[1]? := hfs 1 _ rfl
 have hxl : xs.length = 2 := hlen
 rw [Tryz.cellsI'] at f0
 rw [Tryz.cellsA'] at f1
 match cs, hl with
 | c0 :: r, hsz =>
  have hr : r.length = 16 := by simpa using hsz
  rw [List.getElem?_eq_getElem (by omega)] at f0 f1
  simp only [List.drop_zero, List.drop_succ_cons, List.take_succ_cons, List.take_zero] at f0 f1
  obtain ⟨V, e0, _, wV⟩ := DataW.trod_int Tryz.underlying3 f0
  simp only [List.cons.injEq, and_true] at e0
  rw [List.take_of_length_le (by omega)] at f1
  obtain ⟨ys, m, _, _, _, hyl, hel⟩ := DataW.trod_array Tryz.underlying22 f1
  have hb : ∀ i, i < 16 → ∃ a : Nat, a < 256 ∧ r[i]? = some (.int .u8 (a : Int)) := by
   intro i hi
   have h1 := hel i hi
   rw [Tryz.cellsB', Nat.mul_one, List.getElem?_eq_getElem (by omega), List.drop_eq_getElem_cons (show i < r.length by omega), List.take_succ_cons, List.take_zero] at h1
   obtain ⟨a, e1, _, wa⟩ := DataW.trod_int Tryz.underlying5 h1
   simp only [List.cons.injEq, and_true] at e1
   simp [Lit.wf, IntKind.min, IntKind.max, IntKind.bits, IntKind.signed] at wa
   refine ⟨a.toNat, by omega, ?_⟩
   rw [List.getElem?_eq_getElem (show i < r.length by omega), e1]
   congr 2
   omega
  refine ⟨V, fun i => match r[i]? with | some (.int _ a) => a.toNat | _ => 0, ?_, wV, fun i => ?_⟩
  rotate_left
  · by_cases hi : i < 16
    · obtain ⟨a, hlt, ha⟩ := hb i hi
      simp only [ha]
      omega
    · have hn : r[i]? = none := List.getElem?_eq_none (by omega)
      simp [hn]
  rw [ipCells_eq, e0]
  congr 1
  apply List.ext_getElem?
  intro i
  by_cases hi : i < 16
  · obtain ⟨a, _, ha⟩ := hb i hi
    rw [ha]
    simp [hi, ha]
  · rw [List.getElem?_eq_none (by omega), List.getElem?_eq_none (by simp; omega)]
theorem Tryz.cells_tu' : Tryz.prog.cellsOf 38 = 37 := by kernel_rfl
set_option maxRecDepth 100000 in
theorem open_tu {fuel : Nat} {l : List Value} {x : DataW H × List MemPlace} (hf : DataW.trod enc Tryz.prog W 0 (fun _ => true) true fuel 38 l = some x) : ∃ x : TU, l = (tuC x).toList ∧ x.Wf := by
 obtain ⟨xs, n, _, hx, hl, hlen, hfs⟩ := DataW.trod_struct Tryz.underlying38 hf
 rw [Tryz.cells_tu'] at hl
 have hxl : xs.length = 5 := hlen
 have f0 : DataW.trod enc Tryz.prog W 0 (fun _ => true) true n 3 ((l.drop 0).take (Tryz.prog.cellsOf 3)) = xs[0]? := hfs 0 _ rfl
 have f1 : DataW.trod enc Tryz.prog W 0 (fun _ => true) true n 24 ((l.drop 1).take (Tryz.prog.cellsOf 24)) = xs[1]? := hfs 1 _ rfl
 have f2 : DataW.trod enc Tryz.prog W 0 (fun _ => true) true n 24 ((l.drop 18).take (Tryz.prog.cellsOf 24)) = xs[2]? := hfs 2 _ rfl
 have f3 : DataW.trod enc Tryz.prog W 0 (fun _ => true) true n 3 ((l.drop 35).take (Tryz.prog.cellsOf 3)) = xs[3]? := hfs 3 _ rfl
 have f4 : DataW.trod enc Tryz.prog W 0 (fun _ => true) true n 3 ((l.drop 36).take (Tryz.prog.cellsOf 3)) = xs[4]? := hfs 4 _ rfl
 rw [Tryz.cellsI', List.getElem?_eq_getElem (by omega)] at f0
 rw [Tryz.cells_ipv', List.getElem?_eq_getElem (by omega)] at f1
 rw [Tryz.cells_ipv', List.getElem?_eq_getElem (by omega)] at f2
 rw [Tryz.cellsI', List.getElem?_eq_getElem (by omega)] at f3
 rw [Tryz.cellsI', List.getElem?_eq_getElem (by omega)] at f4
 obtain ⟨p, e0, _, wp⟩ := DataW.trod_int Tryz.underlying3 f0
 obtain ⟨V, y, e1, wV, hy⟩ := open_ipw f1
 obtain ⟨U, z, e2, wU, hz⟩ := open_ipw f2
 obtain ⟨s, e3, _, ws⟩ := DataW.trod_int Tryz.underlying3 f3
 obtain ⟨d, e4, _, wd⟩ := DataW.trod_int Tryz.underlying3 f4
 have z4 : (l.drop 36).take 1 = l.drop 36 := List.take_of_length_le (by rw [List.length_drop]; omega)
 have z0 : l.drop 0 = (l.drop 0).take 1 ++ l.drop 1 := cut_at l 0 1
 have z1 : l.drop 1 = (l.drop 1).take 17 ++ l.drop 18 := cut_at l 1 17
 have z2 : l.drop 18 = (l.drop 18).take 17 ++ l.drop 35 := cut_at l 18 17
 have z3 : l.drop 35 = (l.drop 35).take 1 ++ l.drop 36 := cut_at l 35 1
 have hlq : l = (l.drop 0).take 1 ++ ((l.drop 1).take 17 ++ ((l.drop 18).take 17 ++ ((l.drop 35).take 1 ++ ((l.drop 36).take 1)))) := by rw [z4, ← z3, ← z2, ← z1, ← z0, List.drop_zero]
 refine ⟨⟨p, V, y, U, z, s, d⟩, ?_, ⟨wp, wV, fun i _ => hy i, wU, fun i _ => hz i, ws, wd⟩⟩
 rw [hlq, e0, e1, e2, e3, e4]
 rfl
theorem Tryz.cells_st' : Tryz.prog.cellsOf 47 = 41 := by kernel_rfl
set_option maxRecDepth 100000 in
theorem open_st {fuel : Nat} {l : List Value} {x : DataW H × List MemPlace} (hf : DataW.trod enc Tryz.prog W 0 (fun _ => true) true fuel 47 l = some x) : ∃ s : SV, l = stL s ∧ s.Wf := by
 obtain ⟨xs, n, _, hx, hl, hlen, hfs⟩ := DataW.trod_struct Tryz.underlying47 hf
 rw [Tryz.cells_st'] at hl
 have hxl : xs.length = 5 := hlen
 have f0 : DataW.trod enc Tryz.prog W 0 (fun _ => true) true n 3 ((l.drop 0).take (Tryz.prog.cellsOf 3)) = xs[0]? := hfs 0 _ rfl
 have f1 : DataW.trod enc Tryz.prog W 0 (fun _ => true) true n 3 ((l.drop 1).take (Tryz.prog.cellsOf 3)) = xs[1]? := hfs 1 _ rfl
 have f2 : DataW.trod enc Tryz.prog W 0 (fun _ => true) true n 38 ((l.drop 2).take (Tryz.prog.cellsOf 38)) = xs[2]? := hfs 2 _ rfl
 have f3 : DataW.trod enc Tryz.prog W 0 (fun _ => true) true n 3 ((l.drop 39).take (Tryz.prog.cellsOf 3)) = xs[3]? := hfs 3 _ rfl
 have f4 : DataW.trod enc Tryz.prog W 0 (fun _ => true) true n 3 ((l.drop 40).take (Tryz.prog.cellsOf 3)) = xs[4]? := hfs 4 _ rfl
 rw [Tryz.cellsI', List.getElem?_eq_getElem (by omega)] at f0
 rw [Tryz.cellsI', List.getElem?_eq_getElem (by omega)] at f1
 rw [Tryz.cells_tu', List.getElem?_eq_getElem (by omega)] at f2
 rw [Tryz.cellsI', List.getElem?_eq_getElem (by omega)] at f3
 rw [Tryz.cellsI', List.getElem?_eq_getElem (by omega)] at f4
 obtain ⟨k, e0, _, _⟩ := DataW.trod_int Tryz.underlying3 f0
 obtain ⟨b, e1, _, _⟩ := DataW.trod_int Tryz.underlying3 f1
 obtain ⟨x, e2, hx2⟩ := open_tu f2
 obtain ⟨f, e3, _, wf⟩ := DataW.trod_int Tryz.underlying3 f3
 obtain ⟨m, e4, _, wm⟩ := DataW.trod_int Tryz.underlying3 f4
 have z4 : (l.drop 40).take 1 = l.drop 40 := List.take_of_length_le (by rw [List.length_drop]; omega)
 have z0 : l.drop 0 = (l.drop 0).take 1 ++ l.drop 1 := cut_at l 0 1
 have z1 : l.drop 1 = (l.drop 1).take 1 ++ l.drop 2 := cut_at l 1 1
 have z2 : l.drop 2 = (l.drop 2).take 37 ++ l.drop 39 := cut_at l 2 37
 have z3 : l.drop 39 = (l.drop 39).take 1 ++ l.drop 40 := cut_at l 39 1
 have hlq : l = (l.drop 0).take 1 ++ ((l.drop 1).take 1 ++ ((l.drop 2).take 37 ++ ((l.drop 39).take 1 ++ ((l.drop 40).take 1)))) := by rw [z4, ← z3, ← z2, ← z1, ← z0, List.drop_zero]
 refine ⟨⟨k, b, x, f, m⟩, ?_, ⟨hx2, wf, wm⟩⟩
 rw [hlq, e0, e1, e2, e3, e4]
 rfl
theorem Tryz.cells_cf' : Tryz.prog.cellsOf 26 = 25 := by kernel_rfl
set_option maxRecDepth 100000 in
theorem open_cf {fuel : Nat} {l : List Value} {x : DataW H × List MemPlace} (hf : DataW.trod enc Tryz.prog W 0 (fun _ => true) true fuel 26 l = some x) : ∃ c : CF, l = (cfC c).toList ∧ ∀ i, i < 16 → c.o i < 256 := by
 obtain ⟨xs, n, _, hx, hl, hlen, hfs⟩ := DataW.trod_struct Tryz.underlying26 hf
 rw [Tryz.cells_cf'] at hl
 have hxl : xs.length = 9 := hlen
 have f0 : DataW.trod enc Tryz.prog W 0 (fun _ => true) true n 3 ((l.drop 0).take (Tryz.prog.cellsOf 3)) = xs[0]? := hfs 0 _ rfl
 have f1 : DataW.trod enc Tryz.prog W 0 (fun _ => true) true n 24 ((l.drop 1).take (Tryz.prog.cellsOf 24)) = xs[1]? := hfs 1 _ rfl
 have f2 : DataW.trod enc Tryz.prog W 0 (fun _ => true) true n 3 ((l.drop 18).take (Tryz.prog.cellsOf 3)) = xs[2]? := hfs 2 _ rfl
 have f3 : DataW.trod enc Tryz.prog W 0 (fun _ => true) true n 3 ((l.drop 19).take (Tryz.prog.cellsOf 3)) = xs[3]? := hfs 3 _ rfl
 have f4 : DataW.trod enc Tryz.prog W 0 (fun _ => true) true n 3 ((l.drop 20).take (Tryz.prog.cellsOf 3)) = xs[4]? := hfs 4 _ rfl
 have f5 : DataW.trod enc Tryz.prog W 0 (fun _ => true) true n 3 ((l.drop 21).take (Tryz.prog.cellsOf 3)) = xs[5]? := hfs 5 _ rfl
 have f6 : DataW.trod enc Tryz.prog W 0 (fun _ => true) true n 3 ((l.drop 22).take (Tryz.prog.cellsOf 3)) = xs[6]? := hfs 6 _ rfl
 have f7 : DataW.trod enc Tryz.prog W 0 (fun _ => true) true n 3 ((l.drop 23).take (Tryz.prog.cellsOf 3)) = xs[7]? := hfs 7 _ rfl
 have f8 : DataW.trod enc Tryz.prog W 0 (fun _ => true) true n 3 ((l.drop 24).take (Tryz.prog.cellsOf 3)) = xs[8]? := hfs 8 _ rfl
 rw [Tryz.cellsI', List.getElem?_eq_getElem (by omega)] at f0
 rw [Tryz.cells_ipv', List.getElem?_eq_getElem (by omega)] at f1
 rw [Tryz.cellsI', List.getElem?_eq_getElem (by omega)] at f2
 rw [Tryz.cellsI', List.getElem?_eq_getElem (by omega)] at f3
 rw [Tryz.cellsI', List.getElem?_eq_getElem (by omega)] at f4
 rw [Tryz.cellsI', List.getElem?_eq_getElem (by omega)] at f5
 rw [Tryz.cellsI', List.getElem?_eq_getElem (by omega)] at f6
 rw [Tryz.cellsI', List.getElem?_eq_getElem (by omega)] at f7
 rw [Tryz.cellsI', List.getElem?_eq_getElem (by omega)] at f8
 obtain ⟨a, e0, _, _⟩ := DataW.trod_int Tryz.underlying3 f0
 obtain ⟨V, y, e1, _, hy⟩ := open_ipw f1
 obtain ⟨b0, e2, _, _⟩ := DataW.trod_int Tryz.underlying3 f2
 obtain ⟨b1, e3, _, _⟩ := DataW.trod_int Tryz.underlying3 f3
 obtain ⟨b2, e4, _, _⟩ := DataW.trod_int Tryz.underlying3 f4
 obtain ⟨b3, e5, _, _⟩ := DataW.trod_int Tryz.underlying3 f5
 obtain ⟨b4, e6, _, _⟩ := DataW.trod_int Tryz.underlying3 f6
 obtain ⟨b5, e7, _, _⟩ := DataW.trod_int Tryz.underlying3 f7
 obtain ⟨b6, e8, _, _⟩ := DataW.trod_int Tryz.underlying3 f8
 have z8 : (l.drop 24).take 1 = l.drop 24 := List.take_of_length_le (by rw [List.length_drop]; omega)
 have z0 : l.drop 0 = (l.drop 0).take 1 ++ l.drop 1 := cut_at l 0 1
 have z1 : l.drop 1 = (l.drop 1).take 17 ++ l.drop 18 := cut_at l 1 17
 have z2 : l.drop 18 = (l.drop 18).take 1 ++ l.drop 19 := cut_at l 18 1
 have z3 : l.drop 19 = (l.drop 19).take 1 ++ l.drop 20 := cut_at l 19 1
 have z4 : l.drop 20 = (l.drop 20).take 1 ++ l.drop 21 := cut_at l 20 1
 have z5 : l.drop 21 = (l.drop 21).take 1 ++ l.drop 22 := cut_at l 21 1
 have z6 : l.drop 22 = (l.drop 22).take 1 ++ l.drop 23 := cut_at l 22 1
 have z7 : l.drop 23 = (l.drop 23).take 1 ++ l.drop 24 := cut_at l 23 1
 have hlq : l = (l.drop 0).take 1 ++ ((l.drop 1).take 17 ++ ((l.drop 18).take 1 ++ ((l.drop 19).take 1 ++ ((l.drop 20).take 1 ++ ((l.drop 21).take 1 ++ ((l.drop 22).take 1 ++ ((l.drop 23).take 1 ++ ((l.drop 24).take 1)))))))) := by rw [z8, ← z7, ← z6, ← z5, ← z4, ← z3, ← z2, ← z1, ← z0, List.drop_zero]
 refine ⟨⟨a, V, y, b0, b1, b2, b3, b4, b5, b6⟩, ?_, fun i _ => hy i⟩
 rw [hlq, e0, e1, e2, e3, e4, e5, e6, e7, e8]
 rfl
set_option maxRecDepth 100000 in
theorem open_steps {fuel : Nat} {a : Option Addr} {len cap : Nat} {d : DataW H} {p : List MemPlace} (hf : DataW.trod enc Tryz.prog W 0 (fun _ => true) true fuel 27 [.slice a len cap] = some (d, p)) (hb : Rows.uptoBulk d ≤ 1048576) :
    ∃ rs : List SV, rs.length = len ∧ ListG 41 stL SV.Wf W a rs ∧ len ≤ 1048576 :=
  open_list 41 stL SV.Wf Tryz.underlying27 Tryz.cells_st' (by decide) stL_len (fun _ _ _ h _ => open_st h) hf hb
set_option maxRecDepth 100000 in
theorem open_cfg {base : Nat} {v : Value} {d : DataW H} {p : List MemPlace} (hv : Value.okWide Tryz.prog W .any base 26 v)
    (h : DataW.Trod enc Tryz.prog W 0 (fun _ => true) true 26 v d p) : ∃ c : CF, v = .agg (cfC c) ∧ ∀ i, i < 16 → c.o i < 256 := by
  obtain ⟨cs, rfl, _⟩ := okWide_struct Tryz.underlying26 hv
  obtain ⟨fuel, hf⟩ := h
  obtain ⟨l⟩ := cs
  have hf' : DataW.trod enc Tryz.prog W 0 (fun _ => true) true fuel 26 l = some (d, p) := hf
  obtain ⟨c, e, h⟩ := open_cf hf'
  exact ⟨c, by rw [e], h⟩
end
theorem st_at {w w' : World} {a : Option Addr} {ss : List SV} (h : ListG 41 stL SV.Wf w a ss) (b : Below w.heap.size w w') (i : Nat) (hi : i < ss.length) : ∃ s : SV, s.Wf ∧ ∃ g off, a = some ⟨g, off, none⟩ ∧ w'.rangeAt g (off + i * 41) (stC s).toList := by
 obtain ⟨hok, g, off, ha, hlt, hc⟩ := (ListG.old h b).at i ss[i] (List.getElem?_eq_getElem hi)
 refine ⟨ss[i], hok, g, off, ha, fun j v hj => ?_⟩
 have hj' : j < 41 := (List.getElem?_eq_some_iff.1 hj).1
 rw [hc j hj']
 exact hj
end Go.Proofs.YtclpeepnngegaaaGreatDoor
namespace Go.Proofs.YtclpeepnngegaaaGreatDoor
open Go.RowKit Go.Maps
theorem TA.nb {w : World} {t M N : Nat} {c : CF} {E : List FV} (h : TA w t M N c E) {q : Nat} {cc : Array Value} {ty : TypeId} (hc : w.heap[q]? = some (.cells cc ty (0, 0))) (h1 : ty ≠ 70) (h2 : ty ≠ 72) : ¬ TB t M N E q := by
 rintro (e | e | e | ⟨a, ha, e⟩)
 · have h3 := h.cb
   unfold TblAt at h3
   rw [e, h3] at hc
   simp only [Option.some.injEq, Obj.cells.injEq] at hc
   exact h1 hc.2.1.symm
 · obtain ⟨D, hD⟩ := h.ma
   obtain ⟨es, ck, hb⟩ := hD.blk
   rw [e, hb] at hc
   cases hc
 · obtain ⟨D, hD⟩ := h.mb
   obtain ⟨es, ck, hb⟩ := hD.blk
   rw [e, hb] at hc
   cases hc
 · have h3 := h.en a ha
   unfold FloAt at h3
   rw [e, h3] at hc
   simp only [Option.some.injEq, Obj.cells.injEq] at hc
   exact h2 hc.2.1.symm
theorem TupAt.tb {w w' : World} {O : Nat} {x : TU} {t M N : Nat} {c : CF} {E : List FV} (h : TupAt w O x) (ha : TA w t M N c E) (k : Ch (TB t M N E) w w') : TupAt w' O x := h.ch k (ha.nb h (by decide) (by decide))
theorem StpAt.tb {w w' : World} {O : Nat} {x : SV} {t M N : Nat} {c : CF} {E : List FV} (h : StpAt w O x) (ha : TA w t M N c E) (k : Ch (TB t M N E) w w') : StpAt w' O x := h.ch k (ha.nb h (by decide) (by decide))
theorem xz_wf : xz.Wf := ⟨rfl, rfl, fun _ _ => (by show (0 : Nat) < 256; decide), rfl, fun _ _ => (by show (0 : Nat) < 256; decide), rfl, rfl⟩
theorem FT.po {W : World} {t M N : Nat} {c : CF} {E : List FV} {w : World} (h : FT W t M N c E w) {e : FV} (he : e ∈ E) : (ouT c e.n).Wf := by
 unfold ouT
 split
 · rename_i h4
   have hx := h.ta.wf e he
   have hq := h.ta.wfq e he h4
   refine ⟨hx.pr, ?_, h.ok.o, hx.dV, hx.d, hq.po, hx.dp⟩
   show (Lit.int .i64 c.oV).wf = true
   rw [h.ok.oV]
   rfl
 · exact h.ta.wf e he
theorem out_wf {W : World} {t M N : Nat} {c : CF} {E E' : List FV} {w w' : World} {x y : TU} {fl er : Int} {B : Nat} (h : FT W t M N c E w) (hR : OutR c E x fl B er y E') (h' : FT W t M N c E' w') : y.Wf := by
 rcases hR with ⟨_, _, rfl, _⟩ | ⟨_, e, hf, ⟨_, _, rfl, _⟩ | ⟨_, _, rfl, _⟩⟩ | ⟨_, _, ⟨_, _, rfl, _⟩ | ⟨_, _, _, rfl, _⟩ | ⟨_, _, _, po, P, _, _, rfl, rfl⟩⟩
 · exact xz_wf
 · exact xz_wf
 · exact h.po (fF_some hf).1
 · exact xz_wf
 · exact xz_wf
 · have h1 := h'.po (List.mem_append_right E (List.mem_singleton_self _))
   have h2 : ouT c ⟨x, po, 0, 0⟩ = _ := ouT_same c (g := (FV.mk ⟨x, po, oT 0 (sgN x.pr fl), tkN c x.pr (oT 0 (sgN x.pr fl))⟩ P).n) rfl rfl
   rw [h2]
   exact h1
theorem PrvAt.tb {w w' : World} {O : Nat} {x : XV} {t M N : Nat} {c : CF} {E : List FV} (h : PrvAt w O x) (ha : TA w t M N c E) (k : Ch (TB t M N E) w w') : PrvAt w' O x := h.ch k (ha.nb h (by decide) (by decide))
theorem FT.chO {W : World} {t M N : Nat} {c : CF} {E : List FV} {w w' : World} (h : FT W t M N c E w) {O : Nat} (k : Ch (fun q => q = O) w w') (hO : W.heap.size ≤ O) (hq : ∀ q, TB t M N E q → q ≠ O) : FT W t M N c E w' := { h with ta := h.ta.ch k (fun q h1 h2 => hq q h1 h2), bel := h.bel.trans (k.below (fun x hx => by omega) h.bel.size) }
theorem FT.chS {W : World} {t M N : Nat} {c : CF} {E : List FV} {w w' : World} (h : FT W t M N c E w) {S : Nat → Prop} (k : Ch S w w') (hO : ∀ q, S q → W.heap.size ≤ q) (hq : ∀ q, TB t M N E q → ¬ S q) : FT W t M N c E w' := { h with ta := h.ta.ch k (fun q h1 h2 => hq q h1 h2), bel := h.bel.trans (k.below (fun x hx => hO x hx) h.bel.size) }
theorem in_wf {W : World} {t M N : Nat} {c : CF} {E E' : List FV} {w : World} {x y : TU} {fl er : Int} (h : FT W t M N c E w) (hR : InR c E x fl er y E') : y.Wf := by
 rcases hR with ⟨_, _, rfl, _⟩ | ⟨_, _, _, rfl, _⟩ | ⟨_, e, hf, ⟨_, _, rfl, _⟩ | ⟨_, _, rfl, _⟩⟩
 · exact xz_wf
 · exact xz_wf
 · exact xz_wf
 · exact (h.ta.wf e (awO_mem hf)).rev
theorem out_tb {t M N : Nat} {c : CF} {E E' : List FV} {x y : TU} {fl er : Int} {B : Nat} (dj : Dj E) (hR : OutR c E x fl B er y E') : ∀ q, TB t M N E' q → TB t M N E q ∨ B ≤ q := fun q hq => by
 rcases hR with ⟨_, _, _, rfl⟩ | ⟨_, e, hf, ⟨_, _, _, rfl⟩ | ⟨_, _, _, rfl⟩⟩ | ⟨_, _, ⟨_, _, _, rfl⟩ | ⟨_, _, _, _, rfl⟩ | ⟨_, _, _, po, P, _, hB, _, rfl⟩⟩
 · exact .inl hq
 · exact .inl hq
 · exact .inl (turn_tb dj (fF_some hf).1 q hq)
 · exact .inl hq
 · exact .inl hq
 · rcases hq with hq | hq | hq | ⟨a, ha, hq⟩
   · exact .inl (.inl hq)
   · exact .inl (.inr (.inl hq))
   · exact .inl (.inr (.inr (.inl hq)))
   · rcases List.mem_append.1 ha with ha | ha
     · exact .inl (.inr (.inr (.inr ⟨a, ha, hq⟩)))
     · simp only [List.mem_singleton] at ha
       subst ha
       have hq' : q = P := hq
       exact .inr (by omega)
theorem in_tb {t M N : Nat} {c : CF} {E E' : List FV} {x y : TU} {fl er : Int} (dj : Dj E) (hR : InR c E x fl er y E') : ∀ q, TB t M N E' q → TB t M N E q := fun q hq => by
 rcases hR with ⟨_, _, _, rfl⟩ | ⟨_, _, _, _, rfl⟩ | ⟨_, e, hf, ⟨_, _, _, rfl⟩ | ⟨_, _, _, rfl⟩⟩
 · exact hq
 · exact hq
 · exact hq
 · exact turn_tb dj (awO_mem hf) q hq
theorem tick_tb {t M N : Nat} {E : List FV} : ∀ q, TB t M N (E.filterMap tk1) q → TB t M N E q := fun q hq => by
 rcases hq with hq | hq | hq | ⟨a, ha, hq⟩
 · exact .inl hq
 · exact .inr (.inl hq)
 · exact .inr (.inr (.inl hq))
 · obtain ⟨e, he, h1⟩ := List.mem_filterMap.1 ha
   unfold tk1 at h1
   split at h1
   · cases h1
   · obtain rfl := Option.some.inj h1
     exact .inr (.inr (.inr ⟨e, he, hq⟩))
def KPB (t M N : Nat) (a : Option Addr) (n k : Nat) (E : List FV) (q : Nat) : Prop := TB t M N E q ∨ (Value.slice a n k).ownBlock = some q
structure StP (W : World) (t M N : Nat) (c : CF) (a : Option Addr) (n k : Nat) (y : TU) (E : List FV) (L : List FN) (w : World) : Prop where
  ft : FT W t M N c E w
  jr : JR c E L
  fl : FL w W.heap.size (.slice a n k) L
  ls : y.Wf
  sp : ∀ q, (Value.slice a n k).ownBlock = some q → ¬ TB t M N E q
structure BkP (W : World) (BK : Nat) (b : BV) (r : Nat) (w : World) : Prop where
  bk : BkM w BK b
  mg : b.Mg = b.G.map (fun r => r.2.2)
  ln : b.G.length ≤ r
  far : ∀ q, BB BK b q → W.heap.size ≤ q
theorem StP.lt {W : World} {t M N : Nat} {c : CF} {a : Option Addr} {n k : Nat} {y : TU} {E : List FV} {L : List FN} {w : World} (h : StP W t M N c a n k y E L w) : ∀ q, KPB t M N a n k E q → q < w.heap.size := fun q hq => by
 rcases hq with hq | hq
 · exact h.ft.ta.tlt q hq
 · exact fl_lt h.fl hq
theorem StP.ch {W : World} {t M N : Nat} {c : CF} {a : Option Addr} {n k : Nat} {y : TU} {E : List FV} {L : List FN} {w w' : World} (h : StP W t M N c a n k y E L w) {S : Nat → Prop} (kk : Ch S w w') (hO : ∀ q, S q → W.heap.size ≤ q) (hq : ∀ q, KPB t M N a n k E q → ¬ S q) : StP W t M N c a n k y E L w' :=
 ⟨h.ft.chS kk hO (fun q h1 => hq q (.inl h1)), h.jr, h.fl.ch kk (fun q h1 => hq q (.inr h1)), h.ls, h.sp⟩
theorem StP.below {W : World} {t M N : Nat} {c : CF} {a : Option Addr} {n k : Nat} {y : TU} {E : List FV} {L : List FN} {w w' : World} (h : StP W t M N c a n k y E L w) (kk : Below w.heap.size w w') : StP W t M N c a n k y E L w' :=
 ⟨h.ft.below kk, h.jr, h.fl.below kk, h.ls, h.sp⟩
theorem StP.ln {W : World} {t M N : Nat} {c : CF} {a : Option Addr} {n k : Nat} {y : TU} {E : List FV} {L : List FN} {w : World} (h : StP W t M N c a n k y E L w) : L.length = n ∧ n ≤ 4200 := by
 have h1 := fl_len h.fl
 have h2 := h.jr.len
 have h3 := h.ft.len
 exact ⟨h1, by omega⟩
theorem StP.rf {W : World} {t M N : Nat} {c : CF} {a : Option Addr} {n k : Nat} {y : TU} {E : List FV} {L : List FN} {w : World} (h : StP W t M N c a n k y E L w) : (∀ g ∈ L, g.x.Wf) ∧ (∀ f ∈ L, f.x.pr = 6 → 1 ≤ f.st ∧ f.st ≤ 6) ∧ (-1000000 ≤ c.lo ∧ c.hi ≤ 1000000) ∧ (∀ f ∈ L, 1 ≤ f.le ∧ f.le ≤ 1048576) := by
 have h1 := h.ft.ok.lo
 have h2 := h.ft.ok.tp
 refine ⟨h.jr.rl.wf h.ft.ta.wf, fun f hf h6 => ?_, ⟨by omega, by omega⟩, fun f hf => ?_⟩
 · obtain ⟨e, he, rfl⟩ := h.jr.of hf
   exact (h.jr.sn e he).1 h6
 · obtain ⟨e, he, rfl⟩ := h.jr.of hf
   have := h.ft.le e he
   exact ⟨this.lo, this.hi⟩
theorem BkP.ch {W : World} {BK : Nat} {b : BV} {r : Nat} {w w' : World} (h : BkP W BK b r w) {S : Nat → Prop} (kk : Ch S w w') (hq : ∀ q, BB BK b q → ¬ S q) : BkP W BK b r w' := ⟨h.bk.ch kk hq, h.mg, h.ln, h.far⟩
theorem BkP.mono {W : World} {BK : Nat} {b : BV} {r r' : Nat} {w : World} (h : BkP W BK b r w) (hr : r ≤ r') : BkP W BK b r' w := ⟨h.bk, h.mg, Nat.le_trans h.ln hr, h.far⟩
def StD (W : World) (t M N : Nat) (c : CF) (a : Option Addr) (n k : Nat) (E : List FV) (BK : Nat) (b : BV) (r : Nat) (s : SV) (w : World) (ρ : Ending) (w' : World) : Prop :=
 ∃ a' n' k' y' E' L' b', ρ = .returned (.tuple #[.agg (prC ⟨some ⟨t, 0, none⟩, c, a', n', k', y'⟩), .bool true]) ∧ StP W t M N c a' n' k' y' E' L' w' ∧ BkP W BK b' (r + 4) w' ∧ Ch (fun q => TB t M N E q ∨ BB BK b q) w w' ∧ (∀ q, KPB t M N a' n' k' E' q → KPB t M N a n k E q ∨ w.heap.size ≤ q) ∧ (∀ q, BB BK b' q → BB BK b q ∨ w.heap.size ≤ q) ∧ (∀ q, KPB t M N a' n' k' E' q → ¬ BB BK b' q) ∧ (s.kd = 1 → ∃ er y B, OutR c E s.x s.fl B er y E' ∧ (er = 0 → y' = y))
theorem StD.close {W : World} {t M N : Nat} {c : CF} {a a' : Option Addr} {n n' k k' : Nat} {y y' : TU} {E E' : List FV} {L L' : List FN} {BK : Nat} {b : BV} {r : Nat} {s : SV} {w w' : World} (h : StP W t M N c a n k y E L w) (hB : BkP W BK b r w) (hd : ∀ q, KPB t M N a n k E q → ¬ BB BK b q)
    (kk : Ch (TB t M N E) w w') (ft' : FT W t M N c E' w') (jr' : JR c E' L') (tb : ∀ q, TB t M N E' q → TB t M N E q ∨ w.heap.size ≤ q) (fl' : (L' = L ∧ a' = a ∧ n' = n ∧ k' = k) ∨ (FL w' W.heap.size (.slice a' n' k') L' ∧ ∀ q, (Value.slice a' n' k').ownBlock = some q → w.heap.size ≤ q ∧ ¬ TB t M N E' q)) (hy : y'.Wf)
    (h1 : s.kd = 1 → ∃ er y B, OutR c E s.x s.fl B er y E' ∧ (er = 0 → y' = y)) : StD W t M N c a n k E BK b r s w (.returned (.tuple #[.agg (prC ⟨some ⟨t, 0, none⟩, c, a', n', k', y'⟩), .bool true])) w' := by
  have hsz := kk.size
  refine ⟨a', n', k', y', E', L', b, rfl, ⟨ft', jr', ?_, hy, ?_⟩, (hB.ch kk (fun q h2 h3 => hd q (.inl h3) h2)).mono (by omega), kk.mono (fun _ _ q => .inl q), ?_, fun q hq => .inl hq, ?_, h1⟩
  · rcases fl' with ⟨rfl, rfl, rfl, rfl⟩ | ⟨h2, _⟩
    · exact h.fl.ch kk (fun q hq => h.sp q hq)
    · exact h2
  · intro q hq h2
    rcases fl' with ⟨rfl, rfl, rfl, rfl⟩ | ⟨_, h3⟩
    · rcases tb q h2 with h4 | h4
      · exact h.sp q hq h4
      · have := fl_lt h.fl hq; omega
    · exact (h3 q hq).2 h2
  · rintro q (hq | hq)
    · rcases tb q hq with h4 | h4
      · exact .inl (.inl h4)
      · exact .inr h4
    · rcases fl' with ⟨rfl, rfl, rfl, rfl⟩ | ⟨_, h3⟩
      · exact .inl (.inr hq)
      · exact .inr (h3 q hq).1
  · rintro q (hq | hq) h2
    · rcases tb q hq with h4 | h4
      · exact hd q (.inl h4) h2
      · have := hB.bk.lt q h2; omega
    · rcases fl' with ⟨rfl, rfl, rfl, rfl⟩ | ⟨_, h3⟩
      · exact hd q (.inr hq) h2
      · have h4 := (h3 q hq).1
        have := hB.bk.lt q h2
        omega
theorem dump_is {c : CF} {E : List FV} {L S : List FN} (h : JR c E L) (hS : DumpR E S) : S = L := fn_uniq (hS.1.trans h.rl.pm.symm) hS.2 h.rl.so
end Go.Proofs.YtclpeepnngegaaaGreatDoor
