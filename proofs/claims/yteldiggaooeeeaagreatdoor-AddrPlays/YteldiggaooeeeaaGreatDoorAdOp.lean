/-
  Layer 4: the laid tables and the addresses that came in, out of the row's condition.
-/
import Derived.Test.YteldiggaooeeeaaGreatDoorAdSta
import Derived.Lib.LaidTab
import Derived.Deep.DeepHandedRow
import Derived.OpenShut
namespace Go.Proofs.YteldiggaooeeeaaGreatDoor
open Go.RowKit Go.ChangeShapes Go.WideShapes

theorem Tryz.cellsIP' : Tryz.prog.cellsOf 28 = 17 := by kernel_rfl
theorem Tryz.cellsA' : Tryz.prog.cellsOf 26 = 16 := by kernel_rfl
theorem Tryz.cellsI' : Tryz.prog.cellsOf 3 = 1 := by kernel_rfl
theorem Tryz.cellsB' : Tryz.prog.cellsOf 5 = 1 := by kernel_rfl
theorem Tryz.gS : Tryz.prog.globalNamed "weir/addr.special" = some 0 := by kernel_rfl
theorem Tryz.gSt : (Tryz.prog.globals[0]?).map (·.type) = some 56 := by kernel_rfl
theorem Tryz.cellsSp : Tryz.prog.cellsOf 55 = 19 := by kernel_rfl
theorem sp_split : ∀ l : List Value, l.length = 19 → l = (l.drop 0).take 1 ++ ((l.drop 1).take 1 ++ ((l.drop 2).take 16 ++ (l.drop 18).take 1))
  | [_, _, _, _, _, _, _, _, _, _, _, _, _, _, _, _, _, _, _], _ => rfl
set_option maxRecDepth 100000 in
theorem open_sp {W : World} {fuel : Nat} {cs : List Value} {p : List MemPlace} {a b c : Int} {zs : List Int} (hf : DataW.trod (fun _ => ()) Tryz.prog W 0 (fun _ => true) false fuel 55 cs = some (.agg [.lit (.int .i64 a), .lit (.int .i64 b), Lib.tabData .u8 zs, .lit (.int .i64 c)], p)) : cs = [.int .i64 a] ++ ([.int .i64 b] ++ (zs.map (fun z => Value.int .u8 z) ++ [.int .i64 c])) := by
  obtain ⟨xs, n, _, hx, hl, hlen, hfs⟩ := DataW.trod_struct Tryz.underlying55 hf
  rw [Tryz.cellsSp] at hl
  have hxl : xs.length = 4 := hlen
  have f0 : DataW.trod (fun _ => ()) Tryz.prog W 0 (fun _ => true) false n 3 ((cs.drop 0).take (Tryz.prog.cellsOf 3)) = xs[0]? := hfs 0 _ rfl
  have f1 : DataW.trod (fun _ => ()) Tryz.prog W 0 (fun _ => true) false n 3 ((cs.drop 1).take (Tryz.prog.cellsOf 3)) = xs[1]? := hfs 1 _ rfl
  have f2 : DataW.trod (fun _ => ()) Tryz.prog W 0 (fun _ => true) false n 26 ((cs.drop 2).take (Tryz.prog.cellsOf 26)) = xs[2]? := hfs 2 _ rfl
  have f3 : DataW.trod (fun _ => ()) Tryz.prog W 0 (fun _ => true) false n 3 ((cs.drop 18).take (Tryz.prog.cellsOf 3)) = xs[3]? := hfs 3 _ rfl
  rw [Tryz.cellsI'] at f0 f1 f3
  rw [Tryz.cellsA'] at f2
  have hd := (Prod.mk.inj hx).1
  match xs, hxl with
  | [x0, x1, (d2, p2), x3], _ =>
    simp only [List.map_cons, List.map_nil, DataW.agg.injEq, List.cons.injEq, and_true] at hd
    obtain ⟨h0, h1, h2, h3⟩ := hd
    simp only [List.getElem?_cons_zero, List.getElem?_cons_succ] at f0 f1 f2 f3
    obtain ⟨z0, e0, g0, _⟩ := DataW.trod_int Tryz.underlying3 f0
    obtain ⟨z1, e1, g1, _⟩ := DataW.trod_int Tryz.underlying3 f1
    obtain ⟨z3, e3, g3, _⟩ := DataW.trod_int Tryz.underlying3 f3
    subst g0 g1 g3 h2
    simp only [DataW.lit.injEq, Lit.int.injEq, true_and] at h0 h1 h3
    subst h0 h1 h3
    have e2 := Lib.cells_of_tab Tryz.underlying26 Tryz.underlying5 Tryz.cellsB' Tryz.cellsA' f2
    rw [sp_split cs hl, e0, e1, e2, e3]
def spRD (k : Nat) : DataW Unit := .agg [.lit (.int .i64 (cl k)), .lit (.int .i64 (vr k)), Lib.tabData .u8 ((List.range 16).map (fun i => ((nt k i : Nat) : Int))), .lit (.int .i64 (ln k : Int))]
def spD : DataW Unit := .agg ((List.range 12).map spRD)
theorem spT_chunk (k : Nat) (h : k < 12) : (spT.drop (k * 19)).take 19 = (spK k).toList := by
  have : k = 0 ∨ k = 1 ∨ k = 2 ∨ k = 3 ∨ k = 4 ∨ k = 5 ∨ k = 6 ∨ k = 7 ∨ k = 8 ∨ k = 9 ∨ k = 10 ∨ k = 11 := by omega
  rcases this with rfl | rfl | rfl | rfl | rfl | rfl | rfl | rfl | rfl | rfl | rfl | rfl <;> rfl
theorem chunk_eq (a b : List Value) (ha : a.length = 228) (hb : b.length = 228) (h : ∀ k, k < 12 → (a.drop (k * 19)).take 19 = (b.drop (k * 19)).take 19) : a = b := by
  apply List.ext_getElem?
  intro j
  by_cases hj : j < 228
  · have h1 := congrArg (fun l => l[j % 19]?) (h (j / 19) (by omega))
    simp only [List.getElem?_take, List.getElem?_drop] at h1
    rw [if_pos (by omega), if_pos (by omega)] at h1
    have e : j / 19 * 19 + j % 19 = j := by omega
    rwa [e] at h1
  · rw [List.getElem?_eq_none (by omega), List.getElem?_eq_none (by omega)]
theorem Tryz.cellsTB : Tryz.prog.cellsOf 56 = 228 := by kernel_rfl
set_option maxRecDepth 100000 in
theorem spe_cells {W : World} {fuel : Nat} {cs : List Value} {p : List MemPlace} (hf : DataW.trod (fun _ => ()) Tryz.prog W 0 (fun _ => true) false fuel 56 cs = some (spD, p)) : cs = spT := by
  obtain ⟨xs, n, _, hx, hl, hlen, hfs⟩ := DataW.trod_array Tryz.underlying56 hf
  have hl2 : cs.length = 228 := by rw [← Tryz.cellsTB]; exact hl
  have hd := (Prod.mk.inj hx).1
  have hd' : (List.range 12).map spRD = xs.map (·.1) := by simpa [spD] using hd
  refine chunk_eq cs spT hl2 rfl (fun k hk => ?_)
  rw [spT_chunk k hk]
  have f := hfs k hk
  rw [Tryz.cellsSp] at f
  have hg : (xs.map (·.1))[k]? = some (spRD k) := by rw [← hd']; simp [hk]
  rw [List.getElem?_map] at hg
  cases hx2 : xs[k]? with
  | none => rw [hx2] at hg; cases hg
  | some y =>
    obtain ⟨yd, yp⟩ := y
    rw [hx2] at hg f
    have : yd = spRD k := by simpa using hg
    subst this
    rw [open_sp f]
    rfl
section
variable {H : Type} {enc : TypeId × Value → H} {W : World}
set_option maxRecDepth 100000 in
theorem open_ipc {fuel : Nat} {cs : List Value} {x : DataW H × List MemPlace} (hf : DataW.trod enc Tryz.prog W 0 (fun _ => true) true fuel 28 cs = some x) : ∃ (V : Int) (y : Nat → Nat), cs = (ipCells V y).toList ∧ ∀ i, y i < 256 := by
  obtain ⟨xs, n, _, hx, hl, hlen, hfs⟩ := DataW.trod_struct Tryz.underlying28 hf
  rw [Tryz.cellsIP'] at hl
  have f0 : DataW.trod enc Tryz.prog W 0 (fun _ => true) true n 3 ((cs.drop 0).take (Tryz.prog.cellsOf 3)) = xs[0]? := hfs 0 _ rfl
  have f1 : DataW.trod enc Tryz.prog W 0 (fun _ => true) true n 26 ((cs.drop 1).take (Tryz.prog.cellsOf 26)) = xs[1]? := hfs 1 _ rfl
  have hxl : xs.length = 2 := hlen
  rw [Tryz.cellsI'] at f0
  rw [Tryz.cellsA'] at f1
  match cs, hl with
  | c0 :: r, hsz =>
    have hr : r.length = 16 := by simpa using hsz
    rw [List.getElem?_eq_getElem (by omega)] at f0 f1
    simp only [List.drop_zero, List.drop_succ_cons, List.take_succ_cons, List.take_zero] at f0 f1
    obtain ⟨V, e0, _, wV⟩ := DataW.trod_int Tryz.underlying3 f0
    simp only [List.cons.injEq, and_true] at e0
    rw [List.take_of_length_le (by omega)] at f1
    obtain ⟨ys, m, _, _, _, hyl, hel⟩ := DataW.trod_array Tryz.underlying26 f1
    have hb : ∀ i, i < 16 → ∃ a : Nat, a < 256 ∧ r[i]? = some (.int .u8 (a : Int)) := by
      intro i hi
      have h1 := hel i hi
      rw [Tryz.cellsB', Nat.mul_one, List.getElem?_eq_getElem (by omega), List.drop_eq_getElem_cons (show i < r.length by omega), List.take_succ_cons, List.take_zero] at h1
      obtain ⟨a, e1, _, wa⟩ := DataW.trod_int Tryz.underlying5 h1
      simp only [List.cons.injEq, and_true] at e1
      simp [Lit.wf, IntKind.min, IntKind.max, IntKind.bits, IntKind.signed] at wa
      refine ⟨a.toNat, by omega, ?_⟩
      rw [List.getElem?_eq_getElem (show i < r.length by omega), e1]
      congr 2
      omega
    refine ⟨V, fun i => match r[i]? with | some (.int _ a) => a.toNat | _ => 0, ?_, fun i => ?_⟩
    rotate_left
    · by_cases hi : i < 16
      · obtain ⟨a, hlt, ha⟩ := hb i hi
        simp only [ha]
        omega
      · have hn : r[i]? = none := List.getElem?_eq_none (by omega)
        simp [hn]
    rw [ipCells_eq, e0]
    congr 1
    apply List.ext_getElem?
    intro i
    by_cases hi : i < 16
    · obtain ⟨a, _, ha⟩ := hb i hi
      rw [ha]
      simp [hi, ha]
    · rw [List.getElem?_eq_none (by omega), List.getElem?_eq_none (by simp; omega)]
end
set_option maxRecDepth 100000 in
theorem open_ipv {H : Type} {enc : TypeId × Value → H} {W : World} {base : Nat} {v : Value} {d : DataW H} {p : List MemPlace} (hv : Value.okWide Tryz.prog W .any base 28 v)
    (h : DataW.Trod enc Tryz.prog W 0 (fun _ => true) true 28 v d p) : ∃ (V : Int) (x : Nat → Nat), v = .agg (ipCells V x) ∧ ∀ i, i < 16 → x i < 256 := by
  obtain ⟨cs, rfl, _⟩ := okWide_struct Tryz.underlying28 hv
  obtain ⟨fuel, hf⟩ := h
  obtain ⟨l⟩ := cs
  have hf' : DataW.trod enc Tryz.prog W 0 (fun _ => true) true fuel 28 l = some (d, p) := hf
  obtain ⟨V, x, e, hx⟩ := open_ipc hf'
  exact ⟨V, x, by rw [e], fun i _ => hx i⟩
def db32 : List Int := [0, 1, 28, 2, 29, 14, 24, 3, 30, 22, 20, 15, 25, 17, 4, 8, 31, 27, 13, 23, 21, 19, 16, 7, 26, 12, 18, 6, 11, 5, 10, 9]
def db64 : List Int := [0, 1, 56, 2, 57, 49, 28, 3, 61, 58, 42, 50, 38, 29, 17, 4, 62, 47, 59, 36, 45, 43, 51, 22, 53, 39, 33, 30, 24, 18, 12, 5, 63, 55, 48, 27, 60, 41, 37, 16, 46, 35, 44, 21, 52, 32, 23, 11, 54, 26, 40, 15, 34, 20, 31, 10, 25, 14, 19, 9, 13, 8, 7, 6]
/-- the library's table of De Bruijn's bits -/
def Deb (w : World) : Prop := Lib.TabIs Tryz.prog w "math/bits.deBruijn64tab" .u8 db64
theorem Deb.below {w w' : World} (h : Deb w) (b : Below w.heap.size w w') : Deb w' := Lib.tabBelow_of_tabIs h w' b
theorem Tryz.g32 : Tryz.prog.globalNamed "math/bits.deBruijn32tab" = some 3 := by kernel_rfl
theorem Tryz.g64 : Tryz.prog.globalNamed "math/bits.deBruijn64tab" = some 4 := by kernel_rfl
theorem Tryz.g64t : (Tryz.prog.globals[4]?).map (·.type) = some 162 := by kernel_rfl
theorem Tryz.gPw : Tryz.prog.globalNamed "internal/strconv.uint64pow10" = some 2 := by kernel_rfl
theorem Tryz.gPwt : (Tryz.prog.globals[2]?).map (·.type) = some 156 := by kernel_rfl
theorem Tryz.cells64 : Tryz.prog.cellsOf 162 = 64 := by kernel_rfl
theorem Tryz.cells20 : Tryz.prog.cellsOf 156 = 20 := by kernel_rfl
theorem Tryz.cellsU : Tryz.prog.cellsOf 139 = 1 := by kernel_rfl
/-- what the row lays -/
structure Gl4 (w : World) : Prop where
  p : Pow w
  d : Deb w
  s : Spe8 w
theorem Gl4.below {w w' : World} (h : Gl4 w) (b : Below w.heap.size w w') : Gl4 w' := ⟨h.p.below b, h.d.below b, h.s.old b⟩
theorem laid_tabs4 {W : World} (h : laidMet Tryz.prog [("math/bits.deBruijn32tab", Lib.tabData .u8 db32), ("math/bits.deBruijn64tab", Lib.tabData .u8 db64), ("internal/strconv.uint64pow10", Lib.tabData .u64 Lib.pow10Tab), ("weir/addr.special", spD)] W) : Gl4 W := by
  obtain ⟨ps, hl, hh⟩ := h
  obtain ⟨g1, t1, cs1, fuel1, p1, q1, hg1, ht1, hv1, hd1, hl2, _⟩ := hl
  obtain ⟨g2, t2, cs2, fuel2, p2, q2, hg2, ht2, hv2, hd2, hl3, _⟩ := hl2
  obtain ⟨g3, t3, cs3, fuel3, p3, q3, hg3, ht3, hv3, hd3, hl4, _⟩ := hl3
  obtain ⟨g4, t4, cs4, fuel4, p4, q4, hg4, ht4, hv4, hd4, _, _⟩ := hl4
  obtain rfl := Option.some.inj (Tryz.g64.symm.trans hg2)
  obtain rfl := Option.some.inj (Tryz.g64t.symm.trans ht2)
  obtain rfl := Option.some.inj (Tryz.gPw.symm.trans hg3)
  obtain rfl := Option.some.inj (Tryz.gPwt.symm.trans ht3)
  obtain rfl := Option.some.inj (Tryz.gS.symm.trans hg4)
  obtain rfl := Option.some.inj (Tryz.gSt.symm.trans ht4)
  have e2 := Lib.cells_of_tab Tryz.underlying162 Tryz.underlying5 Tryz.cellsB' Tryz.cells64 hd2
  have e3 := Lib.cells_of_tab Tryz.underlying156 Tryz.underlying139 Tryz.cellsU Tryz.cells20 hd3
  have e4 := spe_cells hd4
  refine ⟨?_, ?_, fun j v hv => ?_⟩
  · unfold Pow Lib.TabIs
    rw [hv3, ← e3]
  · unfold Deb Lib.TabIs
    rw [hv2, ← e2]
  · rw [Nat.zero_add, World.var?_cell Tryz.gS hv4 j, ← Array.getElem?_toList, e4]
    exact hv
end Go.Proofs.YteldiggaooeeeaaGreatDoor
