/-
  Addresses, messages and bytes that came in: what their reading tells of memory (second form); the tables, out of the row's condition.
-/
import Derived.Test.YtkhalknpfikghaaDoorOpenG
import Derived.Test.YtkhalknpfikghaaDoorI8Nd1
import Derived.Lib.LaidTab
import Derived.Deep.DeepHandedRow
namespace Go.Proofs.YtkhalknpfikghaaDoor
open Go.RowKit Go.ChangeShapes Go.WideShapes
open I8 (M8)

theorem Tryd.cellsA' : Tryd.prog.cellsOf 22 = 16 := by kernel_rfl
theorem Tryd.cellsI' : Tryd.prog.cellsOf 3 = 1 := by kernel_rfl
theorem Tryd.cellsB' : Tryd.prog.cellsOf 5 = 1 := by kernel_rfl
theorem Tryd.cellsIP' : Tryd.prog.cellsOf 24 = 17 := by kernel_rfl
theorem Tryd.cellsS' : Tryd.prog.cellsOf 25 = 1 := by kernel_rfl
theorem Tryd.cellsM' : Tryd.prog.cellsOf 27 = 5 := by kernel_rfl
theorem Tryd.cellsD' : Tryd.prog.cellsOf 92 = 3 := by kernel_rfl
section
variable {H : Type} {enc : TypeId × Value → H} {W : World}
theorem open_bytes {fuel : Nat} {cs : List Value} {x : DataW H × List MemPlace} (hf : DataW.trod enc Tryd.prog W 0 (fun _ => true) true fuel 25 cs = some x) :
    ∃ a len cap zs, cs = [.slice a len cap] ∧ IsRow .u8 W a len cap zs ∧ cap ≤ Rows.uptoBulk x.1 := by
  obtain ⟨d, p⟩ := x
  rcases open_ints Tryd.underlying25 Tryd.underlying5 (by kernel_rfl) hf with ⟨hcs, _⟩ | ⟨x, l, c, zs, hcs, _, hl, hm, hz, hx, hcell, hwz⟩
  · exact ⟨none, 0, 0, [], hcs, .inl ⟨rfl, rfl, rfl, rfl⟩, Nat.zero_le _⟩
  · exact ⟨_, l, c, zs, hcs, .inr ⟨_, rfl, hl, hm, by simpa using hz, hcell, hwz⟩, bulk_row hl (by simpa using hz) hx⟩
set_option maxRecDepth 100000 in
theorem open_ipc {fuel : Nat} {cs : List Value} {x : DataW H × List MemPlace} (hf : DataW.trod enc Tryd.prog W 0 (fun _ => true) true fuel 24 cs = some x) : ∃ (V : Int) (y : Nat → Nat), cs = (ipCells V y).toList ∧ ∀ i, y i < 256 := by
  obtain ⟨xs, n, _, hx, hl, hlen, hfs⟩ := DataW.trod_struct Tryd.underlying24 hf
  rw [Tryd.cellsIP'] at hl
  have f0 : DataW.trod enc Tryd.prog W 0 (fun _ => true) true n 3 ((cs.drop 0).take (Tryd.prog.cellsOf 3)) = xs[0]? := hfs 0 _ rfl
  have f1 : DataW.trod enc Tryd.prog W 0 (fun _ => true) true n 22 ((cs.drop 1).take (Tryd.prog.cellsOf 22)) = xs[1]? := hfs 1 _ rfl
  have hxl : xs.length = 2 := hlen
  rw [Tryd.cellsI'] at f0
  rw [Tryd.cellsA'] at f1
  match cs, hl with
  | c0 :: r, hsz =>
    have hr : r.length = 16 := by simpa using hsz
    rw [List.getElem?_eq_getElem (by omega)] at f0 f1
    simp only [List.drop_zero, List.drop_succ_cons, List.take_succ_cons, List.take_zero] at f0 f1
    obtain ⟨V, e0, _, wV⟩ := DataW.trod_int Tryd.underlying3 f0
    simp only [List.cons.injEq, and_true] at e0
    rw [List.take_of_length_le (by omega)] at f1
    obtain ⟨ys, m, _, _, _, hyl, hel⟩ := DataW.trod_array Tryd.underlying22 f1
    have hb : ∀ i, i < 16 → ∃ a : Nat, a < 256 ∧ r[i]? = some (.int .u8 (a : Int)) := by
      intro i hi
      have h1 := hel i hi
      rw [Tryd.cellsB', Nat.mul_one, List.getElem?_eq_getElem (by omega), List.drop_eq_getElem_cons (show i < r.length by omega), List.take_succ_cons, List.take_zero] at h1
      obtain ⟨a, e1, _, wa⟩ := DataW.trod_int Tryd.underlying5 h1
      simp only [List.cons.injEq, and_true] at e1
      simp [Lit.wf, IntKind.min, IntKind.max, IntKind.bits, IntKind.signed] at wa
      refine ⟨a.toNat, by omega, ?_⟩
      rw [List.getElem?_eq_getElem (show i < r.length by omega), e1]
      congr 2
      omega
    refine ⟨V, fun i => match r[i]? with | some (.int _ a) => a.toNat | _ => 0, ?_, fun i => ?_⟩
    rotate_left
    · by_cases hi : i < 16
      · obtain ⟨a, hlt, ha⟩ := hb i hi
        simp only [ha]
        omega
      · have hn : r[i]? = none := List.getElem?_eq_none (by omega)
        simp [hn]
    rw [ipCells_eq, e0]
    congr 1
    apply List.ext_getElem?
    intro i
    by_cases hi : i < 16
    · obtain ⟨a, _, ha⟩ := hb i hi
      rw [ha]
      simp [hi, ha]
    · rw [List.getElem?_eq_none (by omega), List.getElem?_eq_none (by simp; omega)]
end
set_option maxRecDepth 100000 in
theorem open_ipv {H : Type} {enc : TypeId × Value → H} {W : World} {base : Nat} {v : Value} {d : DataW H} {p : List MemPlace} (hv : Value.okWide Tryd.prog W .any base 24 v)
    (h : DataW.Trod enc Tryd.prog W 0 (fun _ => true) true 24 v d p) : ∃ (V : Int) (x : Nat → Nat), v = .agg (ipCells V x) ∧ ∀ i, i < 16 → x i < 256 := by
  obtain ⟨cs, rfl, _⟩ := okWide_struct Tryd.underlying24 hv
  obtain ⟨fuel, hf⟩ := h
  obtain ⟨l⟩ := cs
  have hf' : DataW.trod enc Tryd.prog W 0 (fun _ => true) true fuel 24 l = some (d, p) := hf
  obtain ⟨V, x, e, hx⟩ := open_ipc hf'
  exact ⟨V, x, by rw [e], fun i _ => hx i⟩
theorem five (l : List Value) (h : l.length = 5) : ∃ a b c d e, l = [a, b, c, d, e] := by
  match l, h with
  | [a, b, c, d, e], _ => exact ⟨a, b, c, d, e, rfl⟩
set_option maxRecDepth 100000 in
theorem open_m8c {H : Type} {enc : TypeId × Value → H} {W : World} {fuel : Nat} {l : List Value} {x : DataW H × List MemPlace} (hf : DataW.trod enc Tryd.prog W 0 (fun _ => true) true fuel 27 l = some x) (hbulk : Rows.uptoBulk x.1 ≤ 1048576) : ∃ m da n c, l = (mC m da n c).toList ∧ MOk W m da n c ∧ c ≤ 1048576 := by
  obtain ⟨xs, n, _, hx, hl, hlen, hfs⟩ := DataW.trod_struct Tryd.underlying27 hf
  rw [Tryd.cellsM'] at hl
  have hxl : xs.length = 5 := hlen
  have f0 : DataW.trod enc Tryd.prog W 0 (fun _ => true) true n 3 ((l.drop 0).take (Tryd.prog.cellsOf 3)) = xs[0]? := hfs 0 _ rfl
  have f1 : DataW.trod enc Tryd.prog W 0 (fun _ => true) true n 3 ((l.drop 1).take (Tryd.prog.cellsOf 3)) = xs[1]? := hfs 1 _ rfl
  have f2 : DataW.trod enc Tryd.prog W 0 (fun _ => true) true n 3 ((l.drop 2).take (Tryd.prog.cellsOf 3)) = xs[2]? := hfs 2 _ rfl
  have f3 : DataW.trod enc Tryd.prog W 0 (fun _ => true) true n 3 ((l.drop 3).take (Tryd.prog.cellsOf 3)) = xs[3]? := hfs 3 _ rfl
  have f4 : DataW.trod enc Tryd.prog W 0 (fun _ => true) true n 25 ((l.drop 4).take (Tryd.prog.cellsOf 25)) = xs[4]? := hfs 4 _ rfl
  rw [Tryd.cellsI'] at f0 f1 f2 f3
  rw [Tryd.cellsS'] at f4
  rw [List.getElem?_eq_getElem (by omega)] at f0 f1 f2 f3 f4
  have hb4 : Rows.uptoBulk xs[4].1 ≤ 1048576 := by
    have hd : x.1 = .agg (xs.map (·.1)) := (Prod.mk.inj hx).1
    have := bulk_memG (d := xs[4].1) (l := xs.map (·.1)) (List.mem_map.2 ⟨xs[4], List.getElem_mem _, rfl⟩)
    rw [hd] at hbulk
    simp only [Rows.uptoBulk] at hbulk
    omega
  clear hf hfs hx hbulk
  obtain ⟨c0, c1, c2, c3, c4, rfl⟩ := five l hl
  simp only [List.drop_zero, List.drop_succ_cons, List.take_succ_cons, List.take_zero, List.take_nil] at f0 f1 f2 f3 f4
  obtain ⟨z0, e0, _, _⟩ := DataW.trod_int Tryd.underlying3 f0
  obtain ⟨z1, e1, _, _⟩ := DataW.trod_int Tryd.underlying3 f1
  obtain ⟨z2, e2, _, _⟩ := DataW.trod_int Tryd.underlying3 f2
  obtain ⟨z3, e3, _, _⟩ := DataW.trod_int Tryd.underlying3 f3
  obtain ⟨da, dn, dc, zs, e4, hrow, hcap⟩ := open_bytes f4
  simp only [List.cons.injEq, and_true] at e0 e1 e2 e3 e4
  subst e0 e1 e2 e3 e4
  obtain ⟨bs, hbl, hseg, h1, h2, h3⟩ := hrow.bytes
  exact ⟨⟨z0, z1, z2, z3, bs⟩, da, dn, dc, rfl, ⟨hbl, hseg, h3, h1, h2, by omega⟩, by omega⟩
set_option maxRecDepth 100000 in
theorem open_m8 {H : Type} {enc : TypeId × Value → H} {W : World} {base : Nat} {v : Value} {d : DataW H} {p : List MemPlace} (hv : Value.okWide Tryd.prog W .any base 27 v)
    (h : DataW.Trod enc Tryd.prog W 0 (fun _ => true) true 27 v d p) (hbulk : Rows.uptoBulk d ≤ 1048576) : ∃ m da n c, v = .agg (mC m da n c) ∧ MOk W m da n c ∧ c ≤ 1048576 := by
  obtain ⟨cs, rfl, _⟩ := okWide_struct Tryd.underlying27 hv
  obtain ⟨fuel, hf⟩ := h
  obtain ⟨l⟩ := cs
  have hf' : DataW.trod enc Tryd.prog W 0 (fun _ => true) true fuel 27 l = some (d, p) := hf
  obtain ⟨m, da, n, c, e, h1, h2⟩ := open_m8c hf' hbulk
  exact ⟨m, da, n, c, by rw [e], h1, h2⟩
set_option maxRecDepth 100000 in
theorem open_di {W : World} {fuel : Nat} {cs : List Value} {p : List MemPlace} {a b c : Int} (hf : DataW.trod (fun _ => ()) Tryd.prog W 0 (fun _ => true) false fuel 92 cs = some (.agg [.lit (.int .i64 a), .lit (.int .i64 b), .lit (.int .i64 c)], p)) : cs = [.int .i64 a, .int .i64 b, .int .i64 c] := by
  obtain ⟨xs, n, _, hx, hl, hlen, hfs⟩ := DataW.trod_struct Tryd.underlying92 hf
  rw [Tryd.cellsD'] at hl
  have hxl : xs.length = 3 := hlen
  have f0 : DataW.trod (fun _ => ()) Tryd.prog W 0 (fun _ => true) false n 3 ((cs.drop 0).take (Tryd.prog.cellsOf 3)) = xs[0]? := hfs 0 _ rfl
  have f1 : DataW.trod (fun _ => ()) Tryd.prog W 0 (fun _ => true) false n 3 ((cs.drop 1).take (Tryd.prog.cellsOf 3)) = xs[1]? := hfs 1 _ rfl
  have f2 : DataW.trod (fun _ => ()) Tryd.prog W 0 (fun _ => true) false n 3 ((cs.drop 2).take (Tryd.prog.cellsOf 3)) = xs[2]? := hfs 2 _ rfl
  rw [Tryd.cellsI'] at f0 f1 f2
  have hd := (Prod.mk.inj hx).1
  match xs, hxl with
  | [x0, x1, x2], _ =>
    simp only [List.map_cons, List.map_nil, DataW.agg.injEq, List.cons.injEq, and_true] at hd
    obtain ⟨h0, h1, h2⟩ := hd
    match cs, hl with
    | [c0, c1, c2], _ =>
      simp only [List.drop_zero, List.drop_succ_cons, List.take_succ_cons, List.take_zero, List.take_nil, List.getElem?_cons_zero, List.getElem?_cons_succ] at f0 f1 f2
      obtain ⟨z0, e0, g0, _⟩ := DataW.trod_int Tryd.underlying3 f0
      obtain ⟨z1, e1, g1, _⟩ := DataW.trod_int Tryd.underlying3 f1
      obtain ⟨z2, e2, g2, _⟩ := DataW.trod_int Tryd.underlying3 f2
      simp only [List.cons.injEq, and_true] at e0 e1 e2
      subst g0 g1 g2
      simp only [DataW.lit.injEq, Lit.int.injEq, true_and] at h0 h1 h2
      subst h0 h1 h2 e0 e1 e2
      rfl
def disD : DataW Unit := .agg [.agg [.lit (.int .i64 1), .lit (.int .i64 135), .lit (.int .i64 1)], .agg [.lit (.int .i64 2), .lit (.int .i64 136), .lit (.int .i64 2)]]
set_option maxRecDepth 100000 in
theorem dis_cells {W : World} {fuel : Nat} {cs : List Value} {p : List MemPlace} (hf : DataW.trod (fun _ => ()) Tryd.prog W 0 (fun _ => true) false fuel 101 cs = some (disD, p)) : cs = disC := by
  obtain ⟨xs, n, _, hx, hl, hlen, hfs⟩ := DataW.trod_array Tryd.underlying101 hf
  have hl6 : cs.length = 6 := hl
  have f0 := hfs 0 (by decide)
  have f1 := hfs 1 (by decide)
  rw [Tryd.cellsD'] at f0 f1
  have hd := (Prod.mk.inj hx).1
  have hxl : xs.length = 2 := hlen
  match xs, hxl with
  | [x0, x1], _ =>
    simp only [disD, List.map_cons, List.map_nil, DataW.agg.injEq, List.cons.injEq, and_true] at hd
    obtain ⟨h0, h1⟩ := hd
    obtain ⟨d0, p0⟩ := x0
    obtain ⟨d1, p1⟩ := x1
    simp only at h0 h1
    subst h0 h1
    have e0 := open_di f0
    have e1 := open_di f1
    match cs, hl6 with
    | [c0, c1, c2, c3, c4, c5], _ =>
      simp at e0 e1
      obtain ⟨rfl, rfl, rfl⟩ := e0
      obtain ⟨rfl, rfl, rfl⟩ := e1
      rfl
theorem Tryd.gW : Tryd.prog.globalNamed "weir/icmp.widths" = some 0 := by kernel_rfl
theorem Tryd.gWt : (Tryd.prog.globals[0]?).map (·.type) = some 56 := by kernel_rfl
theorem Tryd.cellsW : Tryd.prog.cellsOf 56 = 4 := by kernel_rfl
theorem Tryd.gD : Tryd.prog.globalNamed "weir/icmp.discoveries" = some 1 := by kernel_rfl
theorem Tryd.gDt : (Tryd.prog.globals[1]?).map (·.type) = some 101 := by kernel_rfl
set_option maxRecDepth 100000 in
theorem laid_tabs {W : World} {n0 : String} {d0 : DataW Unit} (h : laidMet Tryd.prog [(n0, d0), ("weir/icmp.widths", Lib.tabData .i64 [8, 8, 16, 32]), ("weir/icmp.discoveries", disD)] W) : Wid8 W ∧ Dis8 W := by
  obtain ⟨ps, hl, _⟩ := h
  obtain ⟨g0, t0, cs0, fuel0, p0, q0, _, _, _, _, hl1, _⟩ := hl
  obtain ⟨g1, t1, cs1, fuel1, p1, q1, hg1, ht1, hv1, hd1, hl2, _⟩ := hl1
  obtain ⟨g2, t2, cs2, fuel2, p2, q2, hg2, ht2, hv2, hd2, _, _⟩ := hl2
  obtain rfl := Option.some.inj (Tryd.gW.symm.trans hg1)
  obtain rfl := Option.some.inj (Tryd.gWt.symm.trans ht1)
  obtain rfl := Option.some.inj (Tryd.gD.symm.trans hg2)
  obtain rfl := Option.some.inj (Tryd.gDt.symm.trans ht2)
  have e1 := Lib.cells_of_tab Tryd.underlying56 Tryd.underlying3 Tryd.cellsI' Tryd.cellsW hd1
  have e2 := dis_cells hd2
  refine ⟨fun j v hv => ?_, fun j v hv => ?_⟩
  · rw [Nat.zero_add, World.var?_cell Tryd.gW hv1 j, ← Array.getElem?_toList, e1]
    exact hv
  · rw [Nat.zero_add, World.var?_cell Tryd.gD hv2 j, ← Array.getElem?_toList, e2]
    exact hv
end Go.Proofs.YtkhalknpfikghaaDoor
