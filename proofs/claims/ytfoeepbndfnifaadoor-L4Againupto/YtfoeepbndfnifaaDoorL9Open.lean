/-
  Addresses, datagrams, segments and bytes that came in: what their reading tells of memory (second form); l4's tables, out of the row's condition.
-/
import Derived.Test.YtfoeepbndfnifaaDoorOpenG
import Derived.Test.YtfoeepbndfnifaaDoorL9St1
import Derived.Lib.LaidTab
import Derived.Deep.DeepHandedRow
namespace Go.Proofs.YtfoeepbndfnifaaDoor
open Go.RowKit Go.ChangeShapes Go.WideShapes
open L4 (U9 T9)

theorem Tryd.cellsA' : Tryd.prog.cellsOf 22 = 16 := by kernel_rfl
theorem Tryd.cellsI' : Tryd.prog.cellsOf 3 = 1 := by kernel_rfl
theorem Tryd.cellsB' : Tryd.prog.cellsOf 5 = 1 := by kernel_rfl
theorem Tryd.cellsIP' : Tryd.prog.cellsOf 24 = 17 := by kernel_rfl
theorem Tryd.cellsS' : Tryd.prog.cellsOf 25 = 1 := by kernel_rfl
theorem Tryd.cellsP' : Tryd.prog.cellsOf 68 = 2 := by kernel_rfl
theorem Tryd.cellsO' : Tryd.prog.cellsOf 43 = 1 := by kernel_rfl
theorem Tryd.cellsZ' : Tryd.prog.cellsOf 4 = 1 := by kernel_rfl
theorem Tryd.cellsU' : Tryd.prog.cellsOf 37 = 4 := by kernel_rfl
theorem Tryd.cellsT' : Tryd.prog.cellsOf 45 = 9 := by kernel_rfl
theorem Tryd.cellsL' : Tryd.prog.cellsOf 136 = 2 := by kernel_rfl
section
variable {H : Type} {enc : TypeId × Value → H} {W : World}
theorem open_bytes {fuel : Nat} {cs : List Value} {x : DataW H × List MemPlace} (hf : DataW.trod enc Tryd.prog W 0 (fun _ => true) true fuel 25 cs = some x) :
    ∃ a len cap zs, cs = [.slice a len cap] ∧ IsRow .u8 W a len cap zs ∧ cap ≤ Rows.uptoBulk x.1 := by
  obtain ⟨d, p⟩ := x
  rcases open_ints Tryd.underlying25 Tryd.underlying5 (by kernel_rfl) hf with ⟨hcs, _⟩ | ⟨x, l, c, zs, hcs, _, hl, hm, hz, hx, hcell, hwz⟩
  · exact ⟨none, 0, 0, [], hcs, .inl ⟨rfl, rfl, rfl, rfl⟩, Nat.zero_le _⟩
  · exact ⟨_, l, c, zs, hcs, .inr ⟨_, rfl, hl, hm, by simpa using hz, hcell, hwz⟩, bulk_row hl (by simpa using hz) hx⟩
set_option maxRecDepth 100000 in
theorem open_ipc {fuel : Nat} {cs : List Value} {x : DataW H × List MemPlace} (hf : DataW.trod enc Tryd.prog W 0 (fun _ => true) true fuel 24 cs = some x) : ∃ (V : Int) (y : Nat → Nat), cs = (ipCells V y).toList ∧ ∀ i, y i < 256 := by
  obtain ⟨xs, n, _, hx, hl, hlen, hfs⟩ := DataW.trod_struct Tryd.underlying24 hf
  rw [Tryd.cellsIP'] at hl
  have f0 : DataW.trod enc Tryd.prog W 0 (fun _ => true) true n 3 ((cs.drop 0).take (Tryd.prog.cellsOf 3)) = xs[0]? := hfs 0 _ rfl
  have f1 : DataW.trod enc Tryd.prog W 0 (fun _ => true) true n 22 ((cs.drop 1).take (Tryd.prog.cellsOf 22)) = xs[1]? := hfs 1 _ rfl
  have hxl : xs.length = 2 := hlen
  rw [Tryd.cellsI'] at f0
  rw [Tryd.cellsA'] at f1
  match cs, hl with
  | c0 :: r, hsz =>
    have hr : r.length = 16 := by simpa using hsz
    rw [List.getElem?_eq_getElem (by omega)] at f0 f1
    simp only [List.drop_zero, List.drop_succ_cons, List.take_succ_cons, List.take_zero] at f0 f1
    obtain ⟨V, e0, _, wV⟩ := DataW.trod_int Tryd.underlying3 f0
    simp only [List.cons.injEq, and_true] at e0
    rw [List.take_of_length_le (by omega)] at f1
    obtain ⟨ys, m, _, _, _, hyl, hel⟩ := DataW.trod_array Tryd.underlying22 f1
    have hb : ∀ i, i < 16 → ∃ a : Nat, a < 256 ∧ r[i]? = some (.int .u8 (a : Int)) := by
      intro i hi
      have h1 := hel i hi
      rw [Tryd.cellsB', Nat.mul_one, List.getElem?_eq_getElem (by omega), List.drop_eq_getElem_cons (show i < r.length by omega), List.take_succ_cons, List.take_zero] at h1
      obtain ⟨a, e1, _, wa⟩ := DataW.trod_int Tryd.underlying5 h1
      simp only [List.cons.injEq, and_true] at e1
      simp [Lit.wf, IntKind.min, IntKind.max, IntKind.bits, IntKind.signed] at wa
      refine ⟨a.toNat, by omega, ?_⟩
      rw [List.getElem?_eq_getElem (show i < r.length by omega), e1]
      congr 2
      omega
    refine ⟨V, fun i => match r[i]? with | some (.int _ a) => a.toNat | _ => 0, ?_, fun i => ?_⟩
    rotate_left
    · by_cases hi : i < 16
      · obtain ⟨a, hlt, ha⟩ := hb i hi
        simp only [ha]
        omega
      · have hn : r[i]? = none := List.getElem?_eq_none (by omega)
        simp [hn]
    rw [ipCells_eq, e0]
    congr 1
    apply List.ext_getElem?
    intro i
    by_cases hi : i < 16
    · obtain ⟨a, _, ha⟩ := hb i hi
      rw [ha]
      simp [hi, ha]
    · rw [List.getElem?_eq_none (by omega), List.getElem?_eq_none (by simp; omega)]
def OpCells (o : OpV) : List Value := [.int .i64 o.k, .slice o.a o.d.length o.c]
set_option maxRecDepth 100000 in
theorem open_opt (fuel : Nat) (cs : List Value) (x : DataW H × List MemPlace) (hf : DataW.trod enc Tryd.prog W 0 (fun _ => true) true fuel 68 cs = some x) (hbk : Rows.uptoBulk x.1 ≤ 1048576) : ∃ o : OpV, cs = OpCells o ∧ OpOk W o ∧ o.d.length ≤ 1048576 := by
  obtain ⟨xs, n, _, hx, hl, hlen, hfs⟩ := DataW.trod_struct Tryd.underlying68 hf
  rw [Tryd.cellsP'] at hl
  have f0 : DataW.trod enc Tryd.prog W 0 (fun _ => true) true n 3 ((cs.drop 0).take (Tryd.prog.cellsOf 3)) = xs[0]? := hfs 0 _ rfl
  have f1 : DataW.trod enc Tryd.prog W 0 (fun _ => true) true n 25 ((cs.drop 1).take (Tryd.prog.cellsOf 25)) = xs[1]? := hfs 1 _ rfl
  have hxl : xs.length = 2 := hlen
  rw [Tryd.cellsI'] at f0
  rw [Tryd.cellsS'] at f1
  match cs, hl with
  | [c0, c1], _ =>
    rw [List.getElem?_eq_getElem (by omega)] at f0 f1
    simp only [List.drop_zero, List.drop_succ_cons, List.take_succ_cons, List.take_zero, List.take_nil] at f0 f1
    obtain ⟨k, e0, _, _⟩ := DataW.trod_int Tryd.underlying3 f0
    obtain ⟨a, len, cap, zs, e1, hrow, hcb⟩ := open_bytes f1
    simp only [List.cons.injEq, and_true] at e0 e1
    obtain ⟨bs, hbl, hseg, h1, h2, h3⟩ := hrow.bytes
    have hb1 : Rows.uptoBulk xs[1].1 ≤ 1048576 := by
      have hd : x.1 = .agg (xs.map (·.1)) := (Prod.mk.inj hx).1
      have := bulk_memG (d := xs[1].1) (l := xs.map (·.1)) (List.mem_map.2 ⟨xs[1], List.getElem_mem _, rfl⟩)
      rw [hd] at hbk
      simp only [Rows.uptoBulk] at hbk
      omega
    exact ⟨⟨k, a, cap, bs⟩, by rw [e0, e1, OpCells, hbl], ⟨hseg, h3, by rw [hbl]; exact h1, h2⟩, by show bs.length ≤ 1048576; omega⟩
theorem opts_listG {la : Option Addr} {os : List OpV} (h : ListG 2 OpCells (fun o => OpOk W o ∧ o.d.length ≤ 1048576) W la os) : OptsAt W la os := by
  rcases h with h | ⟨b, off, ha, hlt, hc⟩
  · exact .inl h
  · refine .inr ⟨b, off, ha, hlt, fun i o ho => ⟨(hc i o ho).1.1, ?_, ?_⟩⟩
    · exact (hc i o ho).2 0 (by omega)
    · exact (hc i o ho).2 1 (by omega)
theorem opts_small {la : Option Addr} {os : List OpV} (h : ListG 2 OpCells (fun o => OpOk W o ∧ o.d.length ≤ 1048576) W la os) : ∀ o ∈ os, o.d.length ≤ 1048576 := by
  intro o ho
  obtain ⟨i, hi⟩ := List.mem_iff_getElem?.1 ho
  exact (h.at i o hi).1.2
theorem open_optl {fuel : Nat} {cs : List Value} {x : DataW H × List MemPlace} (hf : DataW.trod enc Tryd.prog W 0 (fun _ => true) true fuel 43 cs = some x) (hb : Rows.uptoBulk x.1 ≤ 1048576) :
    ∃ a len cap os, cs = [.slice a len cap] ∧ os.length = len ∧ OptsAt W a os ∧ len ≤ 1048576 ∧ ∀ o ∈ os, o.d.length ≤ 1048576 := by
  have hcs : ∃ a len cap, cs = [.slice a len cap] := by
    rcases Deep.open_slice Tryd.underlying43 hf with ⟨hcs, _⟩ | ⟨ad, l, c, m, n, D, Pl, hcs, _⟩
    · exact ⟨_, _, _, hcs⟩
    · exact ⟨_, _, _, hcs⟩
  obtain ⟨a, len, cap, rfl⟩ := hcs
  obtain ⟨d, p⟩ := x
  obtain ⟨os, h1, h2, h3⟩ := open_list 2 OpCells (fun o => OpOk W o ∧ o.d.length ≤ 1048576) Tryd.underlying43 Tryd.cellsP' (by decide) (fun _ => rfl) open_opt hf hb
  exact ⟨a, len, cap, os, rfl, h1, opts_listG h2, h3, opts_small h2⟩
end
set_option maxRecDepth 100000 in
theorem open_ipv {H : Type} {enc : TypeId × Value → H} {W : World} {base : Nat} {v : Value} {d : DataW H} {p : List MemPlace} (hv : Value.okWide Tryd.prog W .any base 24 v)
    (h : DataW.Trod enc Tryd.prog W 0 (fun _ => true) true 24 v d p) : ∃ (V : Int) (x : Nat → Nat), v = .agg (ipCells V x) ∧ ∀ i, i < 16 → x i < 256 := by
  obtain ⟨cs, rfl, _⟩ := okWide_struct Tryd.underlying24 hv
  obtain ⟨fuel, hf⟩ := h
  obtain ⟨l⟩ := cs
  have hf' : DataW.trod enc Tryd.prog W 0 (fun _ => true) true fuel 24 l = some (d, p) := hf
  obtain ⟨V, x, e, hx⟩ := open_ipc hf'
  exact ⟨V, x, by rw [e], fun i _ => hx i⟩
theorem list4 (l : List Value) (h : l.length = 4) : ∃ c0 c1 c2 c3, l = [c0, c1, c2, c3] := by
  match l, h with
  | [c0, c1, c2, c3], _ => exact ⟨c0, c1, c2, c3, rfl⟩
theorem list9 (l : List Value) (h : l.length = 9) : ∃ c0 c1 c2 c3 c4 c5 c6 c7 c8, l = [c0, c1, c2, c3, c4, c5, c6, c7, c8] := by
  match l, h with
  | [c0, c1, c2, c3, c4, c5, c6, c7, c8], _ => exact ⟨c0, c1, c2, c3, c4, c5, c6, c7, c8, rfl⟩
set_option maxRecDepth 100000 in
theorem open_u9c {H : Type} {enc : TypeId × Value → H} {W : World} {fuel : Nat} {l : List Value} {x : DataW H × List MemPlace} (hf : DataW.trod enc Tryd.prog W 0 (fun _ => true) true fuel 37 l = some x) (hbulk : Rows.uptoBulk x.1 ≤ 1048576) : ∃ u da n c, l = (uC u da n c).toList ∧ DOk W u.d da n c ∧ n ≤ 1048576 := by
  obtain ⟨xs, fl, _, hx, hl, hlen, hfs⟩ := DataW.trod_struct Tryd.underlying37 hf
  rw [Tryd.cellsU'] at hl
  have hxl : xs.length = 4 := hlen
  have f0 : DataW.trod enc Tryd.prog W 0 (fun _ => true) true fl 3 ((l.drop 0).take (Tryd.prog.cellsOf 3)) = xs[0]? := hfs 0 _ rfl
  have f1 : DataW.trod enc Tryd.prog W 0 (fun _ => true) true fl 3 ((l.drop 1).take (Tryd.prog.cellsOf 3)) = xs[1]? := hfs 1 _ rfl
  have f2 : DataW.trod enc Tryd.prog W 0 (fun _ => true) true fl 4 ((l.drop 2).take (Tryd.prog.cellsOf 4)) = xs[2]? := hfs 2 _ rfl
  have f3 : DataW.trod enc Tryd.prog W 0 (fun _ => true) true fl 25 ((l.drop 3).take (Tryd.prog.cellsOf 25)) = xs[3]? := hfs 3 _ rfl
  rw [Tryd.cellsI'] at f0 f1
  rw [Tryd.cellsZ'] at f2
  rw [Tryd.cellsS'] at f3
  rw [List.getElem?_eq_getElem (by omega)] at f0 f1 f2 f3
  have hb3 : Rows.uptoBulk xs[3].1 ≤ 1048576 := by
    have hd : x.1 = .agg (xs.map (·.1)) := (Prod.mk.inj hx).1
    have := bulk_memG (d := xs[3].1) (l := xs.map (·.1)) (List.mem_map.2 ⟨xs[3], List.getElem_mem _, rfl⟩)
    rw [hd] at hbulk
    simp only [Rows.uptoBulk] at hbulk
    omega
  clear hf hfs hx hbulk
  obtain ⟨c0, c1, c2, c3, rfl⟩ := list4 l hl
  simp only [List.drop_zero, List.drop_succ_cons, List.take_succ_cons, List.take_zero, List.take_nil] at f0 f1 f2 f3
  obtain ⟨z0, e0, _, _⟩ := DataW.trod_int Tryd.underlying3 f0
  obtain ⟨z1, e1, _, _⟩ := DataW.trod_int Tryd.underlying3 f1
  obtain ⟨z2, e2, _⟩ := DataW.trod_bool Tryd.underlying4 f2
  obtain ⟨da, dn, dc, zs, e3, hrow, hcap⟩ := open_bytes f3
  simp only [List.cons.injEq, and_true] at e0 e1 e2 e3
  subst e0 e1 e2 e3
  obtain ⟨bs, hbl, hseg, h1, h2, h3⟩ := hrow.bytes
  exact ⟨⟨z0, z1, z2, bs⟩, da, dn, dc, rfl, ⟨hbl, hseg, h3, h1, h2, by omega⟩, by omega⟩
set_option maxRecDepth 100000 in
theorem open_t9c {H : Type} {enc : TypeId × Value → H} {W : World} {fuel : Nat} {l : List Value} {x : DataW H × List MemPlace} (hf : DataW.trod enc Tryd.prog W 0 (fun _ => true) true fuel 45 l = some x) (hbulk : Rows.uptoBulk x.1 ≤ 1048576) : ∃ t la ln lc os da n c, l = (tC t la ln lc da n c).toList ∧ TOk W t la ln os da n c ∧ (ln ≤ 1048576 ∧ (∀ o ∈ os, o.d.length ≤ 1048576) ∧ n ≤ 1048576) := by
  obtain ⟨xs, fl, _, hx, hl, hlen, hfs⟩ := DataW.trod_struct Tryd.underlying45 hf
  rw [Tryd.cellsT'] at hl
  have hxl : xs.length = 9 := hlen
  have f0 : DataW.trod enc Tryd.prog W 0 (fun _ => true) true fl 3 ((l.drop 0).take (Tryd.prog.cellsOf 3)) = xs[0]? := hfs 0 _ rfl
  have f1 : DataW.trod enc Tryd.prog W 0 (fun _ => true) true fl 3 ((l.drop 1).take (Tryd.prog.cellsOf 3)) = xs[1]? := hfs 1 _ rfl
  have f2 : DataW.trod enc Tryd.prog W 0 (fun _ => true) true fl 3 ((l.drop 2).take (Tryd.prog.cellsOf 3)) = xs[2]? := hfs 2 _ rfl
  have f3 : DataW.trod enc Tryd.prog W 0 (fun _ => true) true fl 3 ((l.drop 3).take (Tryd.prog.cellsOf 3)) = xs[3]? := hfs 3 _ rfl
  have f4 : DataW.trod enc Tryd.prog W 0 (fun _ => true) true fl 3 ((l.drop 4).take (Tryd.prog.cellsOf 3)) = xs[4]? := hfs 4 _ rfl
  have f5 : DataW.trod enc Tryd.prog W 0 (fun _ => true) true fl 3 ((l.drop 5).take (Tryd.prog.cellsOf 3)) = xs[5]? := hfs 5 _ rfl
  have f6 : DataW.trod enc Tryd.prog W 0 (fun _ => true) true fl 3 ((l.drop 6).take (Tryd.prog.cellsOf 3)) = xs[6]? := hfs 6 _ rfl
  have f7 : DataW.trod enc Tryd.prog W 0 (fun _ => true) true fl 43 ((l.drop 7).take (Tryd.prog.cellsOf 43)) = xs[7]? := hfs 7 _ rfl
  have f8 : DataW.trod enc Tryd.prog W 0 (fun _ => true) true fl 25 ((l.drop 8).take (Tryd.prog.cellsOf 25)) = xs[8]? := hfs 8 _ rfl
  rw [Tryd.cellsI'] at f0 f1 f2 f3 f4 f5 f6
  rw [Tryd.cellsO'] at f7
  rw [Tryd.cellsS'] at f8
  rw [List.getElem?_eq_getElem (by omega)] at f0 f1 f2 f3 f4 f5 f6 f7 f8
  have hb7 : Rows.uptoBulk xs[7].1 ≤ 1048576 := by
    have hd : x.1 = .agg (xs.map (·.1)) := (Prod.mk.inj hx).1
    have := bulk_memG (d := xs[7].1) (l := xs.map (·.1)) (List.mem_map.2 ⟨xs[7], List.getElem_mem _, rfl⟩)
    rw [hd] at hbulk
    simp only [Rows.uptoBulk] at hbulk
    omega
  have hb8 : Rows.uptoBulk xs[8].1 ≤ 1048576 := by
    have hd : x.1 = .agg (xs.map (·.1)) := (Prod.mk.inj hx).1
    have := bulk_memG (d := xs[8].1) (l := xs.map (·.1)) (List.mem_map.2 ⟨xs[8], List.getElem_mem _, rfl⟩)
    rw [hd] at hbulk
    simp only [Rows.uptoBulk] at hbulk
    omega
  clear hf hfs hx hbulk
  obtain ⟨c0, c1, c2, c3, c4, c5, c6, c7, c8, rfl⟩ := list9 l hl
  simp only [List.drop_zero, List.drop_succ_cons, List.take_succ_cons, List.take_zero, List.take_nil] at f0 f1 f2 f3 f4 f5 f6 f7 f8
  obtain ⟨z0, e0, _, _⟩ := DataW.trod_int Tryd.underlying3 f0
  obtain ⟨z1, e1, _, _⟩ := DataW.trod_int Tryd.underlying3 f1
  obtain ⟨z2, e2, _, _⟩ := DataW.trod_int Tryd.underlying3 f2
  obtain ⟨z3, e3, _, _⟩ := DataW.trod_int Tryd.underlying3 f3
  obtain ⟨z4, e4, _, _⟩ := DataW.trod_int Tryd.underlying3 f4
  obtain ⟨z5, e5, _, _⟩ := DataW.trod_int Tryd.underlying3 f5
  obtain ⟨z6, e6, _, _⟩ := DataW.trod_int Tryd.underlying3 f6
  obtain ⟨la, ln, lc, os, e7, q1, q2, q3, q4⟩ := open_optl f7 hb7
  obtain ⟨da, dn, dc, zs, e8, hrow, hcap⟩ := open_bytes f8
  simp only [List.cons.injEq, and_true] at e0 e1 e2 e3 e4 e5 e6 e7 e8
  subst e0 e1 e2 e3 e4 e5 e6 e7 e8
  obtain ⟨bs, hbl, hseg, h1, h2, h3⟩ := hrow.bytes
  exact ⟨⟨z0, z1, z2, z3, z4, z5, z6, vals os, bs⟩, la, ln, lc, os, da, dn, dc, rfl, ⟨rfl, q1, q2, by omega, ⟨hbl, hseg, h3, h1, h2, by omega⟩⟩, q3, q4, by omega⟩
set_option maxRecDepth 100000 in
theorem open_u9 {H : Type} {enc : TypeId × Value → H} {W : World} {base : Nat} {v : Value} {d : DataW H} {p : List MemPlace} (hv : Value.okWide Tryd.prog W .any base 37 v)
    (h : DataW.Trod enc Tryd.prog W 0 (fun _ => true) true 37 v d p) (hbulk : Rows.uptoBulk d ≤ 1048576) : ∃ u da n c, v = .agg (uC u da n c) ∧ DOk W u.d da n c ∧ n ≤ 1048576 := by
  obtain ⟨cs, rfl, _⟩ := okWide_struct Tryd.underlying37 hv
  obtain ⟨fuel, hf⟩ := h
  obtain ⟨l⟩ := cs
  have hf' : DataW.trod enc Tryd.prog W 0 (fun _ => true) true fuel 37 l = some (d, p) := hf
  obtain ⟨u, da, n, c, e, h1⟩ := open_u9c hf' hbulk
  exact ⟨u, da, n, c, by rw [e], h1⟩
set_option maxRecDepth 100000 in
theorem open_t9 {H : Type} {enc : TypeId × Value → H} {W : World} {base : Nat} {v : Value} {d : DataW H} {p : List MemPlace} (hv : Value.okWide Tryd.prog W .any base 45 v)
    (h : DataW.Trod enc Tryd.prog W 0 (fun _ => true) true 45 v d p) (hbulk : Rows.uptoBulk d ≤ 1048576) : ∃ t la ln lc os da n c, v = .agg (tC t la ln lc da n c) ∧ TOk W t la ln os da n c ∧ (ln ≤ 1048576 ∧ (∀ o ∈ os, o.d.length ≤ 1048576) ∧ n ≤ 1048576) := by
  obtain ⟨cs, rfl, _⟩ := okWide_struct Tryd.underlying45 hv
  obtain ⟨fuel, hf⟩ := h
  obtain ⟨l⟩ := cs
  have hf' : DataW.trod enc Tryd.prog W 0 (fun _ => true) true fuel 45 l = some (d, p) := hf
  obtain ⟨t, la, ln, lc, os, da, n, c, e, h1⟩ := open_t9c hf' hbulk
  exact ⟨t, la, ln, lc, os, da, n, c, by rw [e], h1⟩
set_option maxRecDepth 100000 in
theorem open_ln {W : World} {fuel : Nat} {cs : List Value} {p : List MemPlace} {a b : Int} (hf : DataW.trod (fun _ => ()) Tryd.prog W 0 (fun _ => true) false fuel 136 cs = some (.agg [.lit (.int .i64 a), .lit (.int .i64 b)], p)) : cs = [.int .i64 a, .int .i64 b] := by
  obtain ⟨xs, n, _, hx, hl, hlen, hfs⟩ := DataW.trod_struct Tryd.underlying136 hf
  rw [Tryd.cellsL'] at hl
  have hxl : xs.length = 2 := hlen
  have f0 : DataW.trod (fun _ => ()) Tryd.prog W 0 (fun _ => true) false n 3 ((cs.drop 0).take (Tryd.prog.cellsOf 3)) = xs[0]? := hfs 0 _ rfl
  have f1 : DataW.trod (fun _ => ()) Tryd.prog W 0 (fun _ => true) false n 3 ((cs.drop 1).take (Tryd.prog.cellsOf 3)) = xs[1]? := hfs 1 _ rfl
  rw [Tryd.cellsI'] at f0 f1
  have hd := (Prod.mk.inj hx).1
  match xs, hxl with
  | [x0, x1], _ =>
    simp only [List.map_cons, List.map_nil, DataW.agg.injEq, List.cons.injEq, and_true] at hd
    obtain ⟨h0, h1⟩ := hd
    match cs, hl with
    | [c0, c1], _ =>
      simp only [List.drop_zero, List.drop_succ_cons, List.take_succ_cons, List.take_zero, List.take_nil, List.getElem?_cons_zero, List.getElem?_cons_succ] at f0 f1
      obtain ⟨z0, e0, g0, _⟩ := DataW.trod_int Tryd.underlying3 f0
      obtain ⟨z1, e1, g1, _⟩ := DataW.trod_int Tryd.underlying3 f1
      simp only [List.cons.injEq, and_true] at e0 e1
      subst g0 g1
      simp only [DataW.lit.injEq, Lit.int.injEq, true_and] at h0 h1
      subst h0 h1 e0 e1
      rfl
def lenD : DataW Unit := .agg [.agg [.lit (.int .i64 2), .lit (.int .i64 4)], .agg [.lit (.int .i64 3), .lit (.int .i64 3)], .agg [.lit (.int .i64 4), .lit (.int .i64 2)], .agg [.lit (.int .i64 5), .lit (.int .i64 10)], .agg [.lit (.int .i64 5), .lit (.int .i64 18)], .agg [.lit (.int .i64 5), .lit (.int .i64 26)], .agg [.lit (.int .i64 5), .lit (.int .i64 34)], .agg [.lit (.int .i64 8), .lit (.int .i64 10)]]
set_option maxRecDepth 100000 in
theorem ln_cells {W : World} {fuel : Nat} {cs : List Value} {p : List MemPlace} (hf : DataW.trod (fun _ => ()) Tryd.prog W 0 (fun _ => true) false fuel 137 cs = some (lenD, p)) : cs = lenC := by
  obtain ⟨xs, n, _, hx, hl, hlen, hfs⟩ := DataW.trod_array Tryd.underlying137 hf
  have hl16 : cs.length = 16 := hl
  have f0 := hfs 0 (by decide)
  have f1 := hfs 1 (by decide)
  have f2 := hfs 2 (by decide)
  have f3 := hfs 3 (by decide)
  have f4 := hfs 4 (by decide)
  have f5 := hfs 5 (by decide)
  have f6 := hfs 6 (by decide)
  have f7 := hfs 7 (by decide)
  rw [Tryd.cellsL'] at f0 f1 f2 f3 f4 f5 f6 f7
  have hd := (Prod.mk.inj hx).1
  have hxl : xs.length = 8 := hlen
  match xs, hxl with
  | [x0, x1, x2, x3, x4, x5, x6, x7], _ =>
    simp only [lenD, List.map_cons, List.map_nil, DataW.agg.injEq, List.cons.injEq, and_true] at hd
    obtain ⟨h0, h1, h2, h3, h4, h5, h6, h7⟩ := hd
    obtain ⟨d0, p0⟩ := x0
    obtain ⟨d1, p1⟩ := x1
    obtain ⟨d2, p2⟩ := x2
    obtain ⟨d3, p3⟩ := x3
    obtain ⟨d4, p4⟩ := x4
    obtain ⟨d5, p5⟩ := x5
    obtain ⟨d6, p6⟩ := x6
    obtain ⟨d7, p7⟩ := x7
    simp only at h0 h1 h2 h3 h4 h5 h6 h7
    subst h0 h1 h2 h3 h4 h5 h6 h7
    have e0 := open_ln f0
    have e1 := open_ln f1
    have e2 := open_ln f2
    have e3 := open_ln f3
    have e4 := open_ln f4
    have e5 := open_ln f5
    have e6 := open_ln f6
    have e7 := open_ln f7
    match cs, hl16 with
    | [c0, c1, c2, c3, c4, c5, c6, c7, c8, c9, c10, c11, c12, c13, c14, c15], _ =>
      simp at e0 e1 e2 e3 e4 e5 e6 e7
      obtain ⟨rfl, rfl⟩ := e0
      obtain ⟨rfl, rfl⟩ := e1
      obtain ⟨rfl, rfl⟩ := e2
      obtain ⟨rfl, rfl⟩ := e3
      obtain ⟨rfl, rfl⟩ := e4
      obtain ⟨rfl, rfl⟩ := e5
      obtain ⟨rfl, rfl⟩ := e6
      obtain ⟨rfl, rfl⟩ := e7
      rfl
theorem Tryd.gL : Tryd.prog.globalNamed "weir/l4.lengths" = some 2 := by kernel_rfl
theorem Tryd.gLt : (Tryd.prog.globals[2]?).map (·.type) = some 137 := by kernel_rfl
theorem Tryd.gT : Tryd.prog.globalNamed "weir/l4.tcpWidths" = some 1 := by kernel_rfl
theorem Tryd.gTt : (Tryd.prog.globals[1]?).map (·.type) = some 84 := by kernel_rfl
theorem Tryd.gU : Tryd.prog.globalNamed "weir/l4.udpWidths" = some 0 := by kernel_rfl
theorem Tryd.gUt : (Tryd.prog.globals[0]?).map (·.type) = some 77 := by kernel_rfl
theorem Tryd.cells10 : Tryd.prog.cellsOf 84 = 10 := by kernel_rfl
theorem Tryd.cells4 : Tryd.prog.cellsOf 77 = 4 := by kernel_rfl
set_option maxRecDepth 100000 in
theorem laid_tabs {W : World} (h : laidMet Tryd.prog [("weir/l4.lengths", lenD), ("weir/l4.tcpWidths", Lib.tabData .i64 [16, 16, 32, 32, 4, 4, 8, 16, 16, 16]), ("weir/l4.udpWidths", Lib.tabData .i64 [16, 16, 16, 16])] W) : Tabs W := by
  obtain ⟨ps, hl, _⟩ := h
  obtain ⟨g0, t0, cs0, fuel0, p0, q0, hg0, ht0, hv0, hd0, hl1, _⟩ := hl
  obtain ⟨g1, t1, cs1, fuel1, p1, q1, hg1, ht1, hv1, hd1, hl2, _⟩ := hl1
  obtain ⟨g2, t2, cs2, fuel2, p2, q2, hg2, ht2, hv2, hd2, _, _⟩ := hl2
  obtain rfl := Option.some.inj (Tryd.gL.symm.trans hg0)
  obtain rfl := Option.some.inj (Tryd.gLt.symm.trans ht0)
  obtain rfl := Option.some.inj (Tryd.gT.symm.trans hg1)
  obtain rfl := Option.some.inj (Tryd.gTt.symm.trans ht1)
  obtain rfl := Option.some.inj (Tryd.gU.symm.trans hg2)
  obtain rfl := Option.some.inj (Tryd.gUt.symm.trans ht2)
  have e0 := ln_cells hd0
  have e1 := Lib.cells_of_tab Tryd.underlying84 Tryd.underlying3 Tryd.cellsI' Tryd.cells10 hd1
  have e2 := Lib.cells_of_tab Tryd.underlying77 Tryd.underlying3 Tryd.cellsI' Tryd.cells4 hd2
  refine ⟨fun j v hv => ?_, fun j v hv => ?_, fun j v hv => ?_⟩
  · rw [Nat.zero_add, World.var?_cell Tryd.gU hv2 j, ← Array.getElem?_toList, e2]
    exact hv
  · rw [Nat.zero_add, World.var?_cell Tryd.gT hv1 j, ← Array.getElem?_toList, e1]
    exact hv
  · rw [Nat.zero_add, World.var?_cell Tryd.gL hv0 j, ← Array.getElem?_toList, e0]
    exact hv
end Go.Proofs.YtfoeepbndfnifaaDoor
