/-
  Layer 17: the program's three tables, out of the row's condition.
-/
import Derived.Test.YtclpeepnngegaaaDoorFlH0
import Derived.Lib.LaidTab
import Derived.Deep.DeepHandedRow
namespace Go.Proofs.YtclpeepnngegaaaDoor
open Go.RowKit Go.ChangeShapes Go.WideShapes

theorem Tryd.cellsA' : Tryd.prog.cellsOf 22 = 16 := by kernel_rfl
theorem Tryd.cellsI' : Tryd.prog.cellsOf 3 = 1 := by kernel_rfl
theorem Tryd.cellsB' : Tryd.prog.cellsOf 5 = 1 := by kernel_rfl
theorem Tryd.gS : Tryd.prog.globalNamed "weir/addr.special" = some 2 := by kernel_rfl
theorem Tryd.gSt : (Tryd.prog.globals[2]?).map (·.type) = some 98 := by kernel_rfl
theorem Tryd.cellsSp : Tryd.prog.cellsOf 97 = 19 := by kernel_rfl
theorem sp_split : ∀ l : List Value, l.length = 19 → l = (l.drop 0).take 1 ++ ((l.drop 1).take 1 ++ ((l.drop 2).take 16 ++ (l.drop 18).take 1))
  | [_, _, _, _, _, _, _, _, _, _, _, _, _, _, _, _, _, _, _], _ => rfl
set_option maxRecDepth 100000 in
theorem open_sp {W : World} {fuel : Nat} {cs : List Value} {p : List MemPlace} {a b c : Int} {zs : List Int} (hf : DataW.trod (fun _ => ()) Tryd.prog W 0 (fun _ => true) false fuel 97 cs = some (.agg [.lit (.int .i64 a), .lit (.int .i64 b), Lib.tabData .u8 zs, .lit (.int .i64 c)], p)) : cs = [.int .i64 a] ++ ([.int .i64 b] ++ (zs.map (fun z => Value.int .u8 z) ++ [.int .i64 c])) := by
  obtain ⟨xs, n, _, hx, hl, hlen, hfs⟩ := DataW.trod_struct Tryd.underlying97 hf
  rw [Tryd.cellsSp] at hl
  have hxl : xs.length = 4 := hlen
  have f0 : DataW.trod (fun _ => ()) Tryd.prog W 0 (fun _ => true) false n 3 ((cs.drop 0).take (Tryd.prog.cellsOf 3)) = xs[0]? := hfs 0 _ rfl
  have f1 : DataW.trod (fun _ => ()) Tryd.prog W 0 (fun _ => true) false n 3 ((cs.drop 1).take (Tryd.prog.cellsOf 3)) = xs[1]? := hfs 1 _ rfl
  have f2 : DataW.trod (fun _ => ()) Tryd.prog W 0 (fun _ => true) false n 22 ((cs.drop 2).take (Tryd.prog.cellsOf 22)) = xs[2]? := hfs 2 _ rfl
  have f3 : DataW.trod (fun _ => ()) Tryd.prog W 0 (fun _ => true) false n 3 ((cs.drop 18).take (Tryd.prog.cellsOf 3)) = xs[3]? := hfs 3 _ rfl
  rw [Tryd.cellsI'] at f0 f1 f3
  rw [Tryd.cellsA'] at f2
  have hd := (Prod.mk.inj hx).1
  match xs, hxl with
  | [x0, x1, (d2, p2), x3], _ =>
    simp only [List.map_cons, List.map_nil, DataW.agg.injEq, List.cons.injEq, and_true] at hd
    obtain ⟨h0, h1, h2, h3⟩ := hd
    simp only [List.getElem?_cons_zero, List.getElem?_cons_succ] at f0 f1 f2 f3
    obtain ⟨z0, e0, g0, _⟩ := DataW.trod_int Tryd.underlying3 f0
    obtain ⟨z1, e1, g1, _⟩ := DataW.trod_int Tryd.underlying3 f1
    obtain ⟨z3, e3, g3, _⟩ := DataW.trod_int Tryd.underlying3 f3
    subst g0 g1 g3 h2
    simp only [DataW.lit.injEq, Lit.int.injEq, true_and] at h0 h1 h3
    subst h0 h1 h3
    have e2 := Lib.cells_of_tab Tryd.underlying22 Tryd.underlying5 Tryd.cellsB' Tryd.cellsA' f2
    rw [sp_split cs hl, e0, e1, e2, e3]
def spRD (k : Nat) : DataW Unit := .agg [.lit (.int .i64 (cl k)), .lit (.int .i64 (vr k)), Lib.tabData .u8 ((List.range 16).map (fun i => ((nt k i : Nat) : Int))), .lit (.int .i64 (ln k : Int))]
def spD : DataW Unit := .agg ((List.range 12).map spRD)
theorem spT_chunk (k : Nat) (h : k < 12) : (spT.drop (k * 19)).take 19 = (spK k).toList := by
  have : k = 0 ∨ k = 1 ∨ k = 2 ∨ k = 3 ∨ k = 4 ∨ k = 5 ∨ k = 6 ∨ k = 7 ∨ k = 8 ∨ k = 9 ∨ k = 10 ∨ k = 11 := by omega
  rcases this with rfl | rfl | rfl | rfl | rfl | rfl | rfl | rfl | rfl | rfl | rfl | rfl <;> rfl
theorem chunk_eq (a b : List Value) (ha : a.length = 228) (hb : b.length = 228) (h : ∀ k, k < 12 → (a.drop (k * 19)).take 19 = (b.drop (k * 19)).take 19) : a = b := by
  apply List.ext_getElem?
  intro j
  by_cases hj : j < 228
  · have h1 := congrArg (fun l => l[j % 19]?) (h (j / 19) (by omega))
    simp only [List.getElem?_take, List.getElem?_drop] at h1
    rw [if_pos (by omega), if_pos (by omega)] at h1
    have e : j / 19 * 19 + j % 19 = j := by omega
    rwa [e] at h1
  · rw [List.getElem?_eq_none (by omega), List.getElem?_eq_none (by omega)]
theorem Tryd.cellsTB : Tryd.prog.cellsOf 98 = 228 := by kernel_rfl
set_option maxRecDepth 100000 in
theorem spe_cells {W : World} {fuel : Nat} {cs : List Value} {p : List MemPlace} (hf : DataW.trod (fun _ => ()) Tryd.prog W 0 (fun _ => true) false fuel 98 cs = some (spD, p)) : cs = spT := by
  obtain ⟨xs, n, _, hx, hl, hlen, hfs⟩ := DataW.trod_array Tryd.underlying98 hf
  have hl2 : cs.length = 228 := by rw [← Tryd.cellsTB]; exact hl
  have hd := (Prod.mk.inj hx).1
  have hd' : (List.range 12).map spRD = xs.map (·.1) := by simpa [spD] using hd
  refine chunk_eq cs spT hl2 rfl (fun k hk => ?_)
  rw [spT_chunk k hk]
  have f := hfs k hk
  rw [Tryd.cellsSp] at f
  have hg : (xs.map (·.1))[k]? = some (spRD k) := by rw [← hd']; simp [hk]
  rw [List.getElem?_map] at hg
  cases hx2 : xs[k]? with
  | none => rw [hx2] at hg; cases hg
  | some y =>
    obtain ⟨yd, yp⟩ := y
    rw [hx2] at hg f
    have : yd = spRD k := by simpa using hg
    subst this
    rw [open_sp f]
    rfl
theorem Tryd.gO : Tryd.prog.globalNamed "weir/flow.outTurns" = some 0 := by kernel_rfl
theorem Tryd.gOt : (Tryd.prog.globals[0]?).map (·.type) = some 69 := by kernel_rfl
theorem Tryd.gI : Tryd.prog.globalNamed "weir/flow.inTurns" = some 1 := by kernel_rfl
theorem Tryd.gIt : (Tryd.prog.globals[1]?).map (·.type) = some 69 := by kernel_rfl
theorem Tryd.cells7 : Tryd.prog.cellsOf 68 = 7 := by kernel_rfl
theorem Tryd.cells56 : Tryd.prog.cellsOf 69 = 56 := by kernel_rfl
def tnRD (L : List Int) (k : Nat) : DataW Unit := Lib.tabData .i64 ((L.drop (k * 7)).take 7)
def tnD (L : List Int) : DataW Unit := .agg ((List.range 8).map (tnRD L))
theorem chunk7 (a b : List Value) (ha : a.length = 56) (hb : b.length = 56) (h : ∀ k, k < 8 → (a.drop (k * 7)).take 7 = (b.drop (k * 7)).take 7) : a = b := by
  apply List.ext_getElem?
  intro j
  by_cases hj : j < 56
  · have h1 := congrArg (fun l => l[j % 7]?) (h (j / 7) (by omega))
    simp only [List.getElem?_take, List.getElem?_drop] at h1
    rw [if_pos (by omega), if_pos (by omega)] at h1
    have e : j / 7 * 7 + j % 7 = j := by omega
    rwa [e] at h1
  · rw [List.getElem?_eq_none (by omega), List.getElem?_eq_none (by omega)]
set_option maxRecDepth 100000 in
theorem tn_cells {W : World} {fuel : Nat} {cs : List Value} {p : List MemPlace} {L : List Int} (hL : L.length = 56) (hf : DataW.trod (fun _ => ()) Tryd.prog W 0 (fun _ => true) false fuel 69 cs = some (tnD L, p)) : cs = L.map (Value.int .i64) := by
  obtain ⟨xs, n, _, hx, hl, hlen, hfs⟩ := DataW.trod_array Tryd.underlying69 hf
  have hl2 : cs.length = 56 := by rw [← Tryd.cells56]; exact hl
  have hd := (Prod.mk.inj hx).1
  have hd' : (List.range 8).map (tnRD L) = xs.map (·.1) := by simpa [tnD] using hd
  refine chunk7 cs _ hl2 (by rw [List.length_map, hL]) (fun k hk => ?_)
  have f := hfs k hk
  rw [Tryd.cells7] at f
  have hg : (xs.map (·.1))[k]? = some (tnRD L k) := by rw [← hd']; simp [hk]
  rw [List.getElem?_map] at hg
  cases hx2 : xs[k]? with
  | none => rw [hx2] at hg; cases hg
  | some y =>
    obtain ⟨yd, yp⟩ := y
    rw [hx2] at hg f
    have : yd = tnRD L k := by simpa using hg
    subst this
    rw [Lib.cells_of_tab Tryd.underlying68 Tryd.underlying3 Tryd.cellsI' Tryd.cells7 f]
    rw [← List.map_drop, ← List.map_take]
theorem laid_tabs17 {W : World} (h : laidMet Tryd.prog [("weir/addr.special", spD), ("weir/flow.outTurns", tnD outL), ("weir/flow.inTurns", tnD inL)] W) : Gl W := by
  obtain ⟨ps, hl, _⟩ := h
  obtain ⟨g1, t1, cs1, fuel1, p1, q1, hg1, ht1, hv1, hd1, hl2, _⟩ := hl
  obtain ⟨g2, t2, cs2, fuel2, p2, q2, hg2, ht2, hv2, hd2, hl3, _⟩ := hl2
  obtain ⟨g3, t3, cs3, fuel3, p3, q3, hg3, ht3, hv3, hd3, _, _⟩ := hl3
  obtain rfl := Option.some.inj (Tryd.gS.symm.trans hg1)
  obtain rfl := Option.some.inj (Tryd.gSt.symm.trans ht1)
  obtain rfl := Option.some.inj (Tryd.gO.symm.trans hg2)
  obtain rfl := Option.some.inj (Tryd.gOt.symm.trans ht2)
  obtain rfl := Option.some.inj (Tryd.gI.symm.trans hg3)
  obtain rfl := Option.some.inj (Tryd.gIt.symm.trans ht3)
  have e1 := spe_cells hd1
  have e2 := tn_cells (L := outL) rfl hd2
  have e3 := tn_cells (L := inL) rfl hd3
  refine ⟨fun j v hv => ?_, fun j v hv => ?_, fun j v hv => ?_⟩
  · rw [Nat.zero_add, World.var?_cell Tryd.gS hv1 j, ← Array.getElem?_toList, e1]
    exact hv
  · rw [Nat.zero_add, World.var?_cell Tryd.gO hv2 j, ← Array.getElem?_toList, e2]
    exact hv
  · rw [Nat.zero_add, World.var?_cell Tryd.gI hv3 j, ← Array.getElem?_toList, e3]
    exact hv
end Go.Proofs.YtclpeepnngegaaaDoor
