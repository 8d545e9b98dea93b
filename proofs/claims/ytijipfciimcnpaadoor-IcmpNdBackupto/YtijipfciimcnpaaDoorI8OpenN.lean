/-
  Addresses, messages and bytes that came in: what their reading tells of memory (second form); the tables, out of the row's condition.
-/
import Derived.Test.YtijipfciimcnpaaDoorOpenG
import Derived.Test.YtijipfciimcnpaaDoorI8Cls
import Derived.Lib.LaidTab
import Derived.Deep.DeepHandedRow
namespace Go.Proofs.YtijipfciimcnpaaDoor
open Go.RowKit Go.ChangeShapes Go.WideShapes
open I8 (M8)

theorem Tryd.cellsA' : Tryd.prog.cellsOf 22 = 16 := by kernel_rfl
theorem Tryd.cellsI' : Tryd.prog.cellsOf 3 = 1 := by kernel_rfl
theorem Tryd.cellsB' : Tryd.prog.cellsOf 5 = 1 := by kernel_rfl
theorem Tryd.cellsIP' : Tryd.prog.cellsOf 24 = 17 := by kernel_rfl
theorem Tryd.cellsS' : Tryd.prog.cellsOf 29 = 1 := by kernel_rfl
theorem Tryd.cellsM' : Tryd.prog.cellsOf 31 = 5 := by kernel_rfl
theorem Tryd.cellsD' : Tryd.prog.cellsOf 85 = 3 := by kernel_rfl
section
variable {H : Type} {enc : TypeId × Value → H} {W : World}
theorem open_bytes {fuel : Nat} {cs : List Value} {x : DataW H × List MemPlace} (hf : DataW.trod enc Tryd.prog W 0 (fun _ => true) true fuel 29 cs = some x) :
    ∃ a len cap zs, cs = [.slice a len cap] ∧ IsRow .u8 W a len cap zs ∧ cap ≤ Rows.uptoBulk x.1 := by
  obtain ⟨d, p⟩ := x
  rcases open_ints Tryd.underlying29 Tryd.underlying5 (by kernel_rfl) hf with ⟨hcs, _⟩ | ⟨x, l, c, zs, hcs, _, hl, hm, hz, hx, hcell, hwz⟩
  · exact ⟨none, 0, 0, [], hcs, .inl ⟨rfl, rfl, rfl, rfl⟩, Nat.zero_le _⟩
  · exact ⟨_, l, c, zs, hcs, .inr ⟨_, rfl, hl, hm, by simpa using hz, hcell, hwz⟩, bulk_row hl (by simpa using hz) hx⟩
set_option maxRecDepth 100000 in
theorem open_ipc {fuel : Nat} {cs : List Value} {x : DataW H × List MemPlace} (hf : DataW.trod enc Tryd.prog W 0 (fun _ => true) true fuel 24 cs = some x) : ∃ (V : Int) (y : Nat → Nat), cs = (ipCells V y).toList ∧ ∀ i, y i < 256 := by
  obtain ⟨xs, n, _, hx, hl, hlen, hfs⟩ := DataW.trod_struct Tryd.underlying24 hf
  rw [Tryd.cellsIP'] at hl
  have f0 : DataW.trod enc Tryd.prog W 0 (fun _ => true) true n 3 ((cs.drop 0).take (Tryd.prog.cellsOf 3)) = xs[0]? := hfs 0 _ rfl
  have f1 : DataW.trod enc Tryd.prog W 0 (fun _ => true) true n 22 ((cs.drop 1).take (Tryd.prog.cellsOf 22)) = xs[1]? := hfs 1 _ rfl
  have hxl : xs.length = 2 := hlen
  rw [Tryd.cellsI'] at f0
  rw [Tryd.cellsA'] at f1
  match cs, hl with
  | c0 :: r, hsz =>
    have hr : r.length = 16 := by simpa using hsz
    rw [List.getElem?_eq_getElem (by omega)] at f0 f1
    simp only [List.drop_zero, List.drop_succ_cons, List.take_succ_cons, List.take_zero] at f0 f1
    obtain ⟨V, e0, _, wV⟩ := DataW.trod_int Tryd.underlying3 f0
    simp only [List.cons.injEq, and_true] at e0
    rw [List.take_of_length_le (by omega)] at f1
    obtain ⟨ys, m, _, _, _, hyl, hel⟩ := DataW.trod_array Tryd.underlying22 f1
    have hb : ∀ i, i < 16 → ∃ a : Nat, a < 256 ∧ r[i]? = some (.int .u8 (a : Int)) := by
      intro i hi
      have h1 := hel i hi
      rw [Tryd.cellsB', Nat.mul_one, List.getElem?_eq_getElem (by omega), List.drop_eq_getElem_cons (show i < r.length by omega), List.take_succ_cons, List.take_zero] at h1
      obtain ⟨a, e1, _, wa⟩ := DataW.trod_int Tryd.underlying5 h1
      simp only [List.cons.injEq, and_true] at e1
      simp [Lit.wf, IntKind.min, IntKind.max, IntKind.bits, IntKind.signed] at wa
      refine ⟨a.toNat, by omega, ?_⟩
      rw [List.getElem?_eq_getElem (show i < r.length by omega), e1]
      congr 2
      omega
    refine ⟨V, fun i => match r[i]? with | some (.int _ a) => a.toNat | _ => 0, ?_, fun i => ?_⟩
    rotate_left
    · by_cases hi : i < 16
      · obtain ⟨a, hlt, ha⟩ := hb i hi
        simp only [ha]
        omega
      · have hn : r[i]? = none := List.getElem?_eq_none (by omega)
        simp [hn]
    rw [ipCells_eq, e0]
    congr 1
    apply List.ext_getElem?
    intro i
    by_cases hi : i < 16
    · obtain ⟨a, _, ha⟩ := hb i hi
      rw [ha]
      simp [hi, ha]
    · rw [List.getElem?_eq_none (by omega), List.getElem?_eq_none (by simp; omega)]
end
set_option maxRecDepth 100000 in
theorem open_ipv {H : Type} {enc : TypeId × Value → H} {W : World} {base : Nat} {v : Value} {d : DataW H} {p : List MemPlace} (hv : Value.okWide Tryd.prog W .any base 24 v)
    (h : DataW.Trod enc Tryd.prog W 0 (fun _ => true) true 24 v d p) : ∃ (V : Int) (x : Nat → Nat), v = .agg (ipCells V x) ∧ ∀ i, i < 16 → x i < 256 := by
  obtain ⟨cs, rfl, _⟩ := okWide_struct Tryd.underlying24 hv
  obtain ⟨fuel, hf⟩ := h
  obtain ⟨l⟩ := cs
  have hf' : DataW.trod enc Tryd.prog W 0 (fun _ => true) true fuel 24 l = some (d, p) := hf
  obtain ⟨V, x, e, hx⟩ := open_ipc hf'
  exact ⟨V, x, by rw [e], fun i _ => hx i⟩
theorem five (l : List Value) (h : l.length = 5) : ∃ a b c d e, l = [a, b, c, d, e] := by
  match l, h with
  | [a, b, c, d, e], _ => exact ⟨a, b, c, d, e, rfl⟩
set_option maxRecDepth 100000 in
theorem open_m8c {H : Type} {enc : TypeId × Value → H} {W : World} {fuel : Nat} {l : List Value} {x : DataW H × List MemPlace} (hf : DataW.trod enc Tryd.prog W 0 (fun _ => true) true fuel 31 l = some x) (hbulk : Rows.uptoBulk x.1 ≤ 1048576) : ∃ m da n c, l = (mC m da n c).toList ∧ MOk W m da n c ∧ c ≤ 1048576 := by
  obtain ⟨xs, n, _, hx, hl, hlen, hfs⟩ := DataW.trod_struct Tryd.underlying31 hf
  rw [Tryd.cellsM'] at hl
  have hxl : xs.length = 5 := hlen
  have f0 : DataW.trod enc Tryd.prog W 0 (fun _ => true) true n 3 ((l.drop 0).take (Tryd.prog.cellsOf 3)) = xs[0]? := hfs 0 _ rfl
  have f1 : DataW.trod enc Tryd.prog W 0 (fun _ => true) true n 3 ((l.drop 1).take (Tryd.prog.cellsOf 3)) = xs[1]? := hfs 1 _ rfl
  have f2 : DataW.trod enc Tryd.prog W 0 (fun _ => true) true n 3 ((l.drop 2).take (Tryd.prog.cellsOf 3)) = xs[2]? := hfs 2 _ rfl
  have f3 : DataW.trod enc Tryd.prog W 0 (fun _ => true) true n 3 ((l.drop 3).take (Tryd.prog.cellsOf 3)) = xs[3]? := hfs 3 _ rfl
  have f4 : DataW.trod enc Tryd.prog W 0 (fun _ => true) true n 29 ((l.drop 4).take (Tryd.prog.cellsOf 29)) = xs[4]? := hfs 4 _ rfl
  rw [Tryd.cellsI'] at f0 f1 f2 f3
  rw [Tryd.cellsS'] at f4
  rw [List.getElem?_eq_getElem (by omega)] at f0 f1 f2 f3 f4
  have hb4 : Rows.uptoBulk xs[4].1 ≤ 1048576 := by
    have hd : x.1 = .agg (xs.map (·.1)) := (Prod.mk.inj hx).1
    have := bulk_memG (d := xs[4].1) (l := xs.map (·.1)) (List.mem_map.2 ⟨xs[4], List.getElem_mem _, rfl⟩)
    rw [hd] at hbulk
    simp only [Rows.uptoBulk] at hbulk
    omega
  clear hf hfs hx hbulk
  obtain ⟨c0, c1, c2, c3, c4, rfl⟩ := five l hl
  simp only [List.drop_zero, List.drop_succ_cons, List.take_succ_cons, List.take_zero, List.take_nil] at f0 f1 f2 f3 f4
  obtain ⟨z0, e0, _, _⟩ := DataW.trod_int Tryd.underlying3 f0
  obtain ⟨z1, e1, _, _⟩ := DataW.trod_int Tryd.underlying3 f1
  obtain ⟨z2, e2, _, _⟩ := DataW.trod_int Tryd.underlying3 f2
  obtain ⟨z3, e3, _, _⟩ := DataW.trod_int Tryd.underlying3 f3
  obtain ⟨da, dn, dc, zs, e4, hrow, hcap⟩ := open_bytes f4
  simp only [List.cons.injEq, and_true] at e0 e1 e2 e3 e4
  subst e0 e1 e2 e3 e4
  obtain ⟨bs, hbl, hseg, h1, h2, h3⟩ := hrow.bytes
  exact ⟨⟨z0, z1, z2, z3, bs⟩, da, dn, dc, rfl, ⟨hbl, hseg, h3, h1, h2, by omega⟩, by omega⟩
set_option maxRecDepth 100000 in
theorem open_m8 {H : Type} {enc : TypeId × Value → H} {W : World} {base : Nat} {v : Value} {d : DataW H} {p : List MemPlace} (hv : Value.okWide Tryd.prog W .any base 31 v)
    (h : DataW.Trod enc Tryd.prog W 0 (fun _ => true) true 31 v d p) (hbulk : Rows.uptoBulk d ≤ 1048576) : ∃ m da n c, v = .agg (mC m da n c) ∧ MOk W m da n c ∧ c ≤ 1048576 := by
  obtain ⟨cs, rfl, _⟩ := okWide_struct Tryd.underlying31 hv
  obtain ⟨fuel, hf⟩ := h
  obtain ⟨l⟩ := cs
  have hf' : DataW.trod enc Tryd.prog W 0 (fun _ => true) true fuel 31 l = some (d, p) := hf
  obtain ⟨m, da, n, c, e, h1, h2⟩ := open_m8c hf' hbulk
  exact ⟨m, da, n, c, by rw [e], h1, h2⟩
set_option maxRecDepth 100000 in
theorem open_di {W : World} {fuel : Nat} {cs : List Value} {p : List MemPlace} {a b c : Int} (hf : DataW.trod (fun _ => ()) Tryd.prog W 0 (fun _ => true) false fuel 85 cs = some (.agg [.lit (.int .i64 a), .lit (.int .i64 b), .lit (.int .i64 c)], p)) : cs = [.int .i64 a, .int .i64 b, .int .i64 c] := by
  obtain ⟨xs, n, _, hx, hl, hlen, hfs⟩ := DataW.trod_struct Tryd.underlying85 hf
  rw [Tryd.cellsD'] at hl
  have hxl : xs.length = 3 := hlen
  have f0 : DataW.trod (fun _ => ()) Tryd.prog W 0 (fun _ => true) false n 3 ((cs.drop 0).take (Tryd.prog.cellsOf 3)) = xs[0]? := hfs 0 _ rfl
  have f1 : DataW.trod (fun _ => ()) Tryd.prog W 0 (fun _ => true) false n 3 ((cs.drop 1).take (Tryd.prog.cellsOf 3)) = xs[1]? := hfs 1 _ rfl
  have f2 : DataW.trod (fun _ => ()) Tryd.prog W 0 (fun _ => true) false n 3 ((cs.drop 2).take (Tryd.prog.cellsOf 3)) = xs[2]? := hfs 2 _ rfl
  rw [Tryd.cellsI'] at f0 f1 f2
  have hd := (Prod.mk.inj hx).1
  match xs, hxl with
  | [x0, x1, x2], _ =>
    simp only [List.map_cons, List.map_nil, DataW.agg.injEq, List.cons.injEq, and_true] at hd
    obtain ⟨h0, h1, h2⟩ := hd
    match cs, hl with
    | [c0, c1, c2], _ =>
      simp only [List.drop_zero, List.drop_succ_cons, List.take_succ_cons, List.take_zero, List.take_nil, List.getElem?_cons_zero, List.getElem?_cons_succ] at f0 f1 f2
      obtain ⟨z0, e0, g0, _⟩ := DataW.trod_int Tryd.underlying3 f0
      obtain ⟨z1, e1, g1, _⟩ := DataW.trod_int Tryd.underlying3 f1
      obtain ⟨z2, e2, g2, _⟩ := DataW.trod_int Tryd.underlying3 f2
      simp only [List.cons.injEq, and_true] at e0 e1 e2
      subst g0 g1 g2
      simp only [DataW.lit.injEq, Lit.int.injEq, true_and] at h0 h1 h2
      subst h0 h1 h2 e0 e1 e2
      rfl
def disD : DataW Unit := .agg [.agg [.lit (.int .i64 1), .lit (.int .i64 135), .lit (.int .i64 1)], .agg [.lit (.int .i64 2), .lit (.int .i64 136), .lit (.int .i64 2)]]
set_option maxRecDepth 100000 in
theorem dis_cells {W : World} {fuel : Nat} {cs : List Value} {p : List MemPlace} (hf : DataW.trod (fun _ => ()) Tryd.prog W 0 (fun _ => true) false fuel 130 cs = some (disD, p)) : cs = disC := by
  obtain ⟨xs, n, _, hx, hl, hlen, hfs⟩ := DataW.trod_array Tryd.underlying130 hf
  have hl6 : cs.length = 6 := hl
  have f0 := hfs 0 (by decide)
  have f1 := hfs 1 (by decide)
  rw [Tryd.cellsD'] at f0 f1
  have hd := (Prod.mk.inj hx).1
  have hxl : xs.length = 2 := hlen
  match xs, hxl with
  | [x0, x1], _ =>
    simp only [disD, List.map_cons, List.map_nil, DataW.agg.injEq, List.cons.injEq, and_true] at hd
    obtain ⟨h0, h1⟩ := hd
    obtain ⟨d0, p0⟩ := x0
    obtain ⟨d1, p1⟩ := x1
    simp only at h0 h1
    subst h0 h1
    have e0 := open_di f0
    have e1 := open_di f1
    match cs, hl6 with
    | [c0, c1, c2, c3, c4, c5], _ =>
      simp at e0 e1
      obtain ⟨rfl, rfl, rfl⟩ := e0
      obtain ⟨rfl, rfl, rfl⟩ := e1
      rfl
theorem Tryd.gD : Tryd.prog.globalNamed "weir/icmp.discoveries" = some 1 := by kernel_rfl
theorem Tryd.gDt : (Tryd.prog.globals[1]?).map (·.type) = some 130 := by kernel_rfl
theorem Tryd.gS : Tryd.prog.globalNamed "weir/addr.special" = some 3 := by kernel_rfl
theorem Tryd.gSt : (Tryd.prog.globals[3]?).map (·.type) = some 151 := by kernel_rfl
theorem Tryd.cellsSp : Tryd.prog.cellsOf 150 = 19 := by kernel_rfl
theorem Tryd.cellsMac : Tryd.prog.cellsOf 26 = 6 := by kernel_rfl
theorem Tryd.cellsBo : Tryd.prog.cellsOf 4 = 1 := by kernel_rfl
theorem Tryd.cellsNd : Tryd.prog.cellsOf 28 = 28 := by kernel_rfl
set_option maxRecDepth 100000 in
theorem open_mac {H : Type} {enc : TypeId × Value → H} {W : World} {fuel : Nat} {r : List Value} {x : DataW H × List MemPlace} (hr : r.length = 6) (hf : DataW.trod enc Tryd.prog W 0 (fun _ => true) true fuel 26 r = some x) : ∃ y : Nat → Nat, r = (macC y).toList ∧ ∀ i, y i < 256 := by
  obtain ⟨d, p⟩ := x
  obtain ⟨ys, m, _, _, _, hyl, hel⟩ := DataW.trod_array Tryd.underlying26 hf
  have hb : ∀ i, i < 6 → ∃ a : Nat, a < 256 ∧ r[i]? = some (.int .u8 (a : Int)) := by
    intro i hi
    have h1 := hel i hi
    rw [Tryd.cellsB', Nat.mul_one, List.getElem?_eq_getElem (by omega), List.drop_eq_getElem_cons (show i < r.length by omega), List.take_succ_cons, List.take_zero] at h1
    obtain ⟨a, e1, _, wa⟩ := DataW.trod_int Tryd.underlying5 h1
    simp only [List.cons.injEq, and_true] at e1
    simp [Lit.wf, IntKind.min, IntKind.max, IntKind.bits, IntKind.signed] at wa
    refine ⟨a.toNat, by omega, ?_⟩
    rw [List.getElem?_eq_getElem (show i < r.length by omega), e1]
    congr 2
    omega
  refine ⟨fun i => match r[i]? with | some (.int _ a) => a.toNat | _ => 0, ?_, fun i => ?_⟩
  rotate_left
  · by_cases hi : i < 6
    · obtain ⟨a, hlt, ha⟩ := hb i hi
      simp only [ha]
      omega
    · have hn : r[i]? = none := List.getElem?_eq_none (by omega)
      simp [hn]
  rw [show ∀ f : Nat → Nat, (macC f).toList = (List.range 6).map (fun i => Value.int .u8 (f i : Nat)) from fun _ => rfl]
  apply List.ext_getElem?
  intro i
  by_cases hi : i < 6
  · obtain ⟨a, _, ha⟩ := hb i hi
    rw [ha]
    simp [hi, ha]
  · rw [List.getElem?_eq_none (by omega), List.getElem?_eq_none (by simp; omega)]
theorem nd_split : ∀ l : List Value, l.length = 28 → l = (l.drop 0).take 1 ++ ((l.drop 1).take 17 ++ ((l.drop 18).take 1 ++ ((l.drop 19).take 1 ++ ((l.drop 20).take 1 ++ ((l.drop 21).take 1 ++ (l.drop 22).take 6)))))
  | [_, _, _, _, _, _, _, _, _, _, _, _, _, _, _, _, _, _, _, _, _, _, _, _, _, _, _, _], _ => rfl
set_option maxRecDepth 100000 in
theorem open_ndc {H : Type} {enc : TypeId × Value → H} {W : World} {fuel : Nat} {l : List Value} {x : DataW H × List MemPlace} (hf : DataW.trod enc Tryd.prog W 0 (fun _ => true) true fuel 28 l = some x) : ∃ (k V : Int) (y : Nat → Nat) (r s o h : Bool) (m : Nat → Nat), l = (ndC k V y r s o h m).toList ∧ (∀ i, i < 16 → y i < 256) ∧ ∀ i, i < 6 → m i < 256 := by
  obtain ⟨xs, n, _, hx, hl, hlen, hfs⟩ := DataW.trod_struct Tryd.underlying28 hf
  rw [Tryd.cellsNd] at hl
  have hxl : xs.length = 7 := hlen
  have f0 : DataW.trod enc Tryd.prog W 0 (fun _ => true) true n 3 ((l.drop 0).take (Tryd.prog.cellsOf 3)) = xs[0]? := hfs 0 _ rfl
  have f1 : DataW.trod enc Tryd.prog W 0 (fun _ => true) true n 24 ((l.drop 1).take (Tryd.prog.cellsOf 24)) = xs[1]? := hfs 1 _ rfl
  have f2 : DataW.trod enc Tryd.prog W 0 (fun _ => true) true n 4 ((l.drop 18).take (Tryd.prog.cellsOf 4)) = xs[2]? := hfs 2 _ rfl
  have f3 : DataW.trod enc Tryd.prog W 0 (fun _ => true) true n 4 ((l.drop 19).take (Tryd.prog.cellsOf 4)) = xs[3]? := hfs 3 _ rfl
  have f4 : DataW.trod enc Tryd.prog W 0 (fun _ => true) true n 4 ((l.drop 20).take (Tryd.prog.cellsOf 4)) = xs[4]? := hfs 4 _ rfl
  have f5 : DataW.trod enc Tryd.prog W 0 (fun _ => true) true n 4 ((l.drop 21).take (Tryd.prog.cellsOf 4)) = xs[5]? := hfs 5 _ rfl
  have f6 : DataW.trod enc Tryd.prog W 0 (fun _ => true) true n 26 ((l.drop 22).take (Tryd.prog.cellsOf 26)) = xs[6]? := hfs 6 _ rfl
  rw [Tryd.cellsI'] at f0
  rw [Tryd.cellsIP'] at f1
  rw [Tryd.cellsBo] at f2 f3 f4 f5
  rw [Tryd.cellsMac] at f6
  rw [List.getElem?_eq_getElem (by omega)] at f0 f1 f2 f3 f4 f5 f6
  obtain ⟨k, e0, _, _⟩ := DataW.trod_int Tryd.underlying3 f0
  obtain ⟨V, y, e1, hy⟩ := open_ipc f1
  obtain ⟨r, e2, _⟩ := DataW.trod_bool Tryd.underlying4 f2
  obtain ⟨s, e3, _⟩ := DataW.trod_bool Tryd.underlying4 f3
  obtain ⟨o, e4, _⟩ := DataW.trod_bool Tryd.underlying4 f4
  obtain ⟨h, e5, _⟩ := DataW.trod_bool Tryd.underlying4 f5
  obtain ⟨m, e6, hm⟩ := open_mac (by rw [List.length_take, List.length_drop]; omega) f6
  refine ⟨k, V, y, r, s, o, h, m, ?_, fun i _ => hy i, fun i _ => hm i⟩
  rw [nd_split l hl, e0, e1, e2, e3, e4, e5, e6]
  rfl
set_option maxRecDepth 100000 in
theorem open_nd {H : Type} {enc : TypeId × Value → H} {W : World} {base : Nat} {v : Value} {d : DataW H} {p : List MemPlace} (hv : Value.okWide Tryd.prog W .any base 28 v)
    (h : DataW.Trod enc Tryd.prog W 0 (fun _ => true) true 28 v d p) : ∃ (k V : Int) (y : Nat → Nat) (r s o h : Bool) (m : Nat → Nat), v = .agg (ndC k V y r s o h m) ∧ (∀ i, i < 16 → y i < 256) ∧ ∀ i, i < 6 → m i < 256 := by
  obtain ⟨cs, rfl, _⟩ := okWide_struct Tryd.underlying28 hv
  obtain ⟨fuel, hf⟩ := h
  obtain ⟨l⟩ := cs
  have hf' : DataW.trod enc Tryd.prog W 0 (fun _ => true) true fuel 28 l = some (d, p) := hf
  obtain ⟨k, V, y, r, s, o, h, m, e, hy, hm⟩ := open_ndc hf'
  exact ⟨k, V, y, r, s, o, h, m, by rw [e], hy, hm⟩
theorem sp_split : ∀ l : List Value, l.length = 19 → l = (l.drop 0).take 1 ++ ((l.drop 1).take 1 ++ ((l.drop 2).take 16 ++ (l.drop 18).take 1))
  | [_, _, _, _, _, _, _, _, _, _, _, _, _, _, _, _, _, _, _], _ => rfl
set_option maxRecDepth 100000 in
theorem open_sp {W : World} {fuel : Nat} {cs : List Value} {p : List MemPlace} {a b c : Int} {zs : List Int} (hf : DataW.trod (fun _ => ()) Tryd.prog W 0 (fun _ => true) false fuel 150 cs = some (.agg [.lit (.int .i64 a), .lit (.int .i64 b), Lib.tabData .u8 zs, .lit (.int .i64 c)], p)) : cs = [.int .i64 a] ++ ([.int .i64 b] ++ (zs.map (fun z => Value.int .u8 z) ++ [.int .i64 c])) := by
  obtain ⟨xs, n, _, hx, hl, hlen, hfs⟩ := DataW.trod_struct Tryd.underlying150 hf
  rw [Tryd.cellsSp] at hl
  have hxl : xs.length = 4 := hlen
  have f0 : DataW.trod (fun _ => ()) Tryd.prog W 0 (fun _ => true) false n 3 ((cs.drop 0).take (Tryd.prog.cellsOf 3)) = xs[0]? := hfs 0 _ rfl
  have f1 : DataW.trod (fun _ => ()) Tryd.prog W 0 (fun _ => true) false n 3 ((cs.drop 1).take (Tryd.prog.cellsOf 3)) = xs[1]? := hfs 1 _ rfl
  have f2 : DataW.trod (fun _ => ()) Tryd.prog W 0 (fun _ => true) false n 22 ((cs.drop 2).take (Tryd.prog.cellsOf 22)) = xs[2]? := hfs 2 _ rfl
  have f3 : DataW.trod (fun _ => ()) Tryd.prog W 0 (fun _ => true) false n 3 ((cs.drop 18).take (Tryd.prog.cellsOf 3)) = xs[3]? := hfs 3 _ rfl
  rw [Tryd.cellsI'] at f0 f1 f3
  rw [Tryd.cellsA'] at f2
  have hd := (Prod.mk.inj hx).1
  match xs, hxl with
  | [x0, x1, (d2, p2), x3], _ =>
    simp only [List.map_cons, List.map_nil, DataW.agg.injEq, List.cons.injEq, and_true] at hd
    obtain ⟨h0, h1, h2, h3⟩ := hd
    simp only [List.getElem?_cons_zero, List.getElem?_cons_succ] at f0 f1 f2 f3
    obtain ⟨z0, e0, g0, _⟩ := DataW.trod_int Tryd.underlying3 f0
    obtain ⟨z1, e1, g1, _⟩ := DataW.trod_int Tryd.underlying3 f1
    obtain ⟨z3, e3, g3, _⟩ := DataW.trod_int Tryd.underlying3 f3
    subst g0 g1 g3 h2
    simp only [DataW.lit.injEq, Lit.int.injEq, true_and] at h0 h1 h3
    subst h0 h1 h3
    have e2 := Lib.cells_of_tab Tryd.underlying22 Tryd.underlying5 Tryd.cellsB' Tryd.cellsA' f2
    rw [sp_split cs hl, e0, e1, e2, e3]
def spRD (k : Nat) : DataW Unit := .agg [.lit (.int .i64 (cl k)), .lit (.int .i64 (vr k)), Lib.tabData .u8 ((List.range 16).map (fun i => ((nt k i : Nat) : Int))), .lit (.int .i64 (ln k : Int))]
def spD : DataW Unit := .agg ((List.range 12).map spRD)
theorem spT_chunk (k : Nat) (h : k < 12) : (spT.drop (k * 19)).take 19 = (spK k).toList := by
  have : k = 0 ∨ k = 1 ∨ k = 2 ∨ k = 3 ∨ k = 4 ∨ k = 5 ∨ k = 6 ∨ k = 7 ∨ k = 8 ∨ k = 9 ∨ k = 10 ∨ k = 11 := by omega
  rcases this with rfl | rfl | rfl | rfl | rfl | rfl | rfl | rfl | rfl | rfl | rfl | rfl <;> rfl
theorem chunk_eq (a b : List Value) (ha : a.length = 228) (hb : b.length = 228) (h : ∀ k, k < 12 → (a.drop (k * 19)).take 19 = (b.drop (k * 19)).take 19) : a = b := by
  apply List.ext_getElem?
  intro j
  by_cases hj : j < 228
  · have h1 := congrArg (fun l => l[j % 19]?) (h (j / 19) (by omega))
    simp only [List.getElem?_take, List.getElem?_drop] at h1
    rw [if_pos (by omega), if_pos (by omega)] at h1
    have e : j / 19 * 19 + j % 19 = j := by omega
    rwa [e] at h1
  · rw [List.getElem?_eq_none (by omega), List.getElem?_eq_none (by omega)]
theorem Tryd.cellsTB : Tryd.prog.cellsOf 151 = 228 := by kernel_rfl
set_option maxRecDepth 100000 in
theorem spe_cells {W : World} {fuel : Nat} {cs : List Value} {p : List MemPlace} (hf : DataW.trod (fun _ => ()) Tryd.prog W 0 (fun _ => true) false fuel 151 cs = some (spD, p)) : cs = spT := by
  obtain ⟨xs, n, _, hx, hl, hlen, hfs⟩ := DataW.trod_array Tryd.underlying151 hf
  have hl2 : cs.length = 228 := by rw [← Tryd.cellsTB]; exact hl
  have hd := (Prod.mk.inj hx).1
  have hd' : (List.range 12).map spRD = xs.map (·.1) := by simpa [spD] using hd
  refine chunk_eq cs spT hl2 rfl (fun k hk => ?_)
  rw [spT_chunk k hk]
  have f := hfs k hk
  rw [Tryd.cellsSp] at f
  have hg : (xs.map (·.1))[k]? = some (spRD k) := by rw [← hd']; simp [hk]
  rw [List.getElem?_map] at hg
  cases hx2 : xs[k]? with
  | none => rw [hx2] at hg; cases hg
  | some y =>
    obtain ⟨yd, yp⟩ := y
    rw [hx2] at hg f
    have : yd = spRD k := by simpa using hg
    subst this
    rw [open_sp f]
    rfl
theorem laid_tabsN {W : World} (h : laidMet Tryd.prog [("weir/addr.special", spD), ("weir/icmp.discoveries", disD)] W) : Dis8 W ∧ Spe8 W := by
  obtain ⟨ps, hl, _⟩ := h
  obtain ⟨g1, t1, cs1, fuel1, p1, q1, hg1, ht1, hv1, hd1, hl2, _⟩ := hl
  obtain ⟨g2, t2, cs2, fuel2, p2, q2, hg2, ht2, hv2, hd2, _, _⟩ := hl2
  obtain rfl := Option.some.inj (Tryd.gS.symm.trans hg1)
  obtain rfl := Option.some.inj (Tryd.gSt.symm.trans ht1)
  obtain rfl := Option.some.inj (Tryd.gD.symm.trans hg2)
  obtain rfl := Option.some.inj (Tryd.gDt.symm.trans ht2)
  have e1 := spe_cells hd1
  have e2 := dis_cells hd2
  refine ⟨fun j v hv => ?_, fun j v hv => ?_⟩
  · rw [Nat.zero_add, World.var?_cell Tryd.gD hv2 j, ← Array.getElem?_toList, e2]
    exact hv
  · rw [Nat.zero_add, World.var?_cell Tryd.gS hv1 j, ← Array.getElem?_toList, e1]
    exact hv
end Go.Proofs.YtijipfciimcnpaaDoor
