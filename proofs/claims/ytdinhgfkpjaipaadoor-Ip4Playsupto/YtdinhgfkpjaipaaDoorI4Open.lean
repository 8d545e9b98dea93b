/-
  A datagram that came in, a list of options that came in: what their reading tells of memory (second form).
-/
import Derived.Test.YtdinhgfkpjaipaaDoorOpenG
import Derived.Test.YtdinhgfkpjaipaaDoorI4Check
namespace Go.Proofs.YtdinhgfkpjaipaaDoor
open Go.RowKit Go.ChangeShapes Go.WideShapes
open I4 (H4)

theorem Tryd.cellsA' : Tryd.prog.cellsOf 22 = 16 := by kernel_rfl
theorem Tryd.cellsI' : Tryd.prog.cellsOf 3 = 1 := by kernel_rfl
theorem Tryd.cellsB' : Tryd.prog.cellsOf 5 = 1 := by kernel_rfl
theorem Tryd.cellsO' : Tryd.prog.cellsOf 4 = 1 := by kernel_rfl
theorem Tryd.cellsIP' : Tryd.prog.cellsOf 24 = 17 := by kernel_rfl
theorem Tryd.cellsH' : Tryd.prog.cellsOf 28 = 43 := by kernel_rfl
theorem Tryd.cellsS' : Tryd.prog.cellsOf 26 = 1 := by kernel_rfl
theorem Tryd.cellsL' : Tryd.prog.cellsOf 25 = 1 := by kernel_rfl
theorem Tryd.cellsP' : Tryd.prog.cellsOf 43 = 2 := by kernel_rfl
section
variable {H : Type} {enc : TypeId × Value → H} {W : World}
/-- bytes -/
theorem open_bytes {fuel : Nat} {cs : List Value} {x : DataW H × List MemPlace} (hf : DataW.trod enc Tryd.prog W 0 (fun _ => true) true fuel 26 cs = some x) :
    ∃ a len cap zs, cs = [.slice a len cap] ∧ IsRow .u8 W a len cap zs ∧ cap ≤ Rows.uptoBulk x.1 := by
  obtain ⟨d, p⟩ := x
  rcases open_ints Tryd.underlying26 Tryd.underlying5 (by kernel_rfl) hf with ⟨hcs, _⟩ | ⟨x, l, c, zs, hcs, _, hl, hm, hz, hx, hcell, hwz⟩
  · exact ⟨none, 0, 0, [], hcs, .inl ⟨rfl, rfl, rfl, rfl⟩, Nat.zero_le _⟩
  · exact ⟨_, l, c, zs, hcs, .inr ⟨_, rfl, hl, hm, by simpa using hz, hcell, hwz⟩, bulk_row hl (by simpa using hz) hx⟩
set_option maxRecDepth 100000 in
theorem open_ipc {fuel : Nat} {cs : List Value} {x : DataW H × List MemPlace} (hf : DataW.trod enc Tryd.prog W 0 (fun _ => true) true fuel 24 cs = some x) : ∃ (V : Int) (y : Nat → Nat), cs = (ipCells V y).toList ∧ ∀ i, y i < 256 := by
  obtain ⟨xs, n, _, hx, hl, hlen, hfs⟩ := DataW.trod_struct Tryd.underlying24 hf
  rw [Tryd.cellsIP'] at hl
  have f0 : DataW.trod enc Tryd.prog W 0 (fun _ => true) true n 3 ((cs.drop 0).take (Tryd.prog.cellsOf 3)) = xs[0]? := hfs 0 _ rfl
  have f1 : DataW.trod enc Tryd.prog W 0 (fun _ => true) true n 22 ((cs.drop 1).take (Tryd.prog.cellsOf 22)) = xs[1]? := hfs 1 _ rfl
  have hxl : xs.length = 2 := hlen
  rw [Tryd.cellsI'] at f0
  rw [Tryd.cellsA'] at f1
  match cs, hl with
  | c0 :: r, hsz =>
    have hr : r.length = 16 := by simpa using hsz
    rw [List.getElem?_eq_getElem (by omega)] at f0 f1
    simp only [List.drop_zero, List.drop_succ_cons, List.take_succ_cons, List.take_zero] at f0 f1
    obtain ⟨V, e0, _, wV⟩ := DataW.trod_int Tryd.underlying3 f0
    simp only [List.cons.injEq, and_true] at e0
    rw [List.take_of_length_le (by omega)] at f1
    obtain ⟨ys, m, _, _, _, hyl, hel⟩ := DataW.trod_array Tryd.underlying22 f1
    have hb : ∀ i, i < 16 → ∃ a : Nat, a < 256 ∧ r[i]? = some (.int .u8 (a : Int)) := by
      intro i hi
      have h1 := hel i hi
      rw [Tryd.cellsB', Nat.mul_one, List.getElem?_eq_getElem (by omega), List.drop_eq_getElem_cons (show i < r.length by omega), List.take_succ_cons, List.take_zero] at h1
      obtain ⟨a, e1, _, wa⟩ := DataW.trod_int Tryd.underlying5 h1
      simp only [List.cons.injEq, and_true] at e1
      simp [Lit.wf, IntKind.min, IntKind.max, IntKind.bits, IntKind.signed] at wa
      refine ⟨a.toNat, by omega, ?_⟩
      rw [List.getElem?_eq_getElem (show i < r.length by omega), e1]
      congr 2
      omega
    refine ⟨V, fun i => match r[i]? with | some (.int _ a) => a.toNat | _ => 0, ?_, fun i => ?_⟩
    rotate_left
    · by_cases hi : i < 16
      · obtain ⟨a, hlt, ha⟩ := hb i hi
        simp only [ha]
        omega
      · have hn : r[i]? = none := List.getElem?_eq_none (by omega)
        simp [hn]
    rw [ipCells_eq, e0]
    congr 1
    apply List.ext_getElem?
    intro i
    by_cases hi : i < 16
    · obtain ⟨a, _, ha⟩ := hb i hi
      rw [ha]
      simp [hi, ha]
    · rw [List.getElem?_eq_none (by omega), List.getElem?_eq_none (by simp; omega)]
def OpCells (o : OpV) : List Value := [.int .i64 o.k, .slice o.a o.d.length o.c]
set_option maxRecDepth 100000 in
theorem open_opt (fuel : Nat) (cs : List Value) (x : DataW H × List MemPlace) (hf : DataW.trod enc Tryd.prog W 0 (fun _ => true) true fuel 43 cs = some x) (hbk : Rows.uptoBulk x.1 ≤ 1048576) : ∃ o : OpV, cs = OpCells o ∧ OpOk W o ∧ o.d.length ≤ 1048576 := by
  obtain ⟨xs, n, _, hx, hl, hlen, hfs⟩ := DataW.trod_struct Tryd.underlying43 hf
  rw [Tryd.cellsP'] at hl
  have f0 : DataW.trod enc Tryd.prog W 0 (fun _ => true) true n 3 ((cs.drop 0).take (Tryd.prog.cellsOf 3)) = xs[0]? := hfs 0 _ rfl
  have f1 : DataW.trod enc Tryd.prog W 0 (fun _ => true) true n 26 ((cs.drop 1).take (Tryd.prog.cellsOf 26)) = xs[1]? := hfs 1 _ rfl
  have hxl : xs.length = 2 := hlen
  rw [Tryd.cellsI'] at f0
  rw [Tryd.cellsS'] at f1
  match cs, hl with
  | [c0, c1], _ =>
    rw [List.getElem?_eq_getElem (by omega)] at f0 f1
    simp only [List.drop_zero, List.drop_succ_cons, List.take_succ_cons, List.take_zero, List.take_nil] at f0 f1
    obtain ⟨k, e0, _, _⟩ := DataW.trod_int Tryd.underlying3 f0
    obtain ⟨a, len, cap, zs, e1, hrow, hcb⟩ := open_bytes f1
    simp only [List.cons.injEq, and_true] at e0 e1
    obtain ⟨bs, hbl, hseg, h1, h2, h3⟩ := hrow.bytes
    have hb1 : Rows.uptoBulk xs[1].1 ≤ 1048576 := by
      have hd : x.1 = .agg (xs.map (·.1)) := (Prod.mk.inj hx).1
      have := bulk_memG (d := xs[1].1) (l := xs.map (·.1)) (List.mem_map.2 ⟨xs[1], List.getElem_mem _, rfl⟩)
      rw [hd] at hbk
      simp only [Rows.uptoBulk] at hbk
      omega
    exact ⟨⟨k, a, cap, bs⟩, by rw [e0, e1, OpCells, hbl], ⟨hseg, h3, by rw [hbl]; exact h1, h2⟩, by show bs.length ≤ 1048576; omega⟩
theorem opts_listG {la : Option Addr} {os : List OpV} (h : ListG 2 OpCells (fun o => OpOk W o ∧ o.d.length ≤ 1048576) W la os) : OptsAt W la os := by
  rcases h with h | ⟨b, off, ha, hlt, hc⟩
  · exact .inl h
  · refine .inr ⟨b, off, ha, hlt, fun i o ho => ⟨(hc i o ho).1.1, ?_, ?_⟩⟩
    · exact (hc i o ho).2 0 (by omega)
    · exact (hc i o ho).2 1 (by omega)
theorem opts_small {la : Option Addr} {os : List OpV} (h : ListG 2 OpCells (fun o => OpOk W o ∧ o.d.length ≤ 1048576) W la os) : ∀ o ∈ os, o.d.length ≤ 1048576 := by
  intro o ho
  obtain ⟨i, hi⟩ := List.mem_iff_getElem?.1 ho
  exact (h.at i o hi).1.2
theorem open_optl {fuel : Nat} {cs : List Value} {x : DataW H × List MemPlace} (hf : DataW.trod enc Tryd.prog W 0 (fun _ => true) true fuel 25 cs = some x) (hb : Rows.uptoBulk x.1 ≤ 1048576) :
    ∃ a len cap os, cs = [.slice a len cap] ∧ os.length = len ∧ OptsAt W a os ∧ len ≤ 1048576 ∧ ∀ o ∈ os, o.d.length ≤ 1048576 := by
  have hcs : ∃ a len cap, cs = [.slice a len cap] := by
    rcases Deep.open_slice Tryd.underlying25 hf with ⟨hcs, _⟩ | ⟨ad, l, c, m, n, D, Pl, hcs, _⟩
    · exact ⟨_, _, _, hcs⟩
    · exact ⟨_, _, _, hcs⟩
  obtain ⟨a, len, cap, rfl⟩ := hcs
  obtain ⟨d, p⟩ := x
  obtain ⟨os, h1, h2, h3⟩ := open_list 2 OpCells (fun o => OpOk W o ∧ o.d.length ≤ 1048576) Tryd.underlying25 Tryd.cellsP' (by decide) (fun _ => rfl) open_opt hf hb
  exact ⟨a, len, cap, os, rfl, h1, opts_listG h2, h3, opts_small h2⟩
end
theorem drop_piece (l p : List Value) (k m : Nat) (h : (l.drop k).take m = p) : l.drop k = p ++ l.drop (k + m) := by
  rw [← h, ← List.drop_drop, List.take_append_drop]
/-- what the bulk bounds -/
structure H4Sm (ln : Nat) (os : List OpV) (n : Nat) : Prop where
  ln : ln ≤ 1048576
  n : n ≤ 1048576
  d : ∀ o ∈ os, o.d.length ≤ 1048576
set_option maxRecDepth 100000 in
set_option maxHeartbeats 1600000 in
theorem open_h4c {H : Type} {enc : TypeId × Value → H} {W : World} {fuel : Nat} {l : List Value} {d : DataW H} {p : List MemPlace} (hsz : l.length = 43)
    (hf : DataW.trod enc Tryd.prog W 0 (fun _ => true) true fuel 28 l = some (d, p)) (hbulk : Rows.uptoBulk d ≤ 1048576) :
    ∃ x la ln lc os da n c, l = (h4C x (.slice la ln lc) (.slice da n c)).toList ∧ H4Ok W x la ln lc os da n c ∧ H4Sm ln os n := by
  obtain ⟨xs, n, _, hx, hl, hlen, hfs⟩ := DataW.trod_struct Tryd.underlying28 hf
  have hxl : xs.length = 11 := hlen
  have f0 : DataW.trod enc Tryd.prog W 0 (fun _ => true) true n 3 ((l.drop 0).take (Tryd.prog.cellsOf 3)) = xs[0]? := hfs 0 _ rfl
  have f1 : DataW.trod enc Tryd.prog W 0 (fun _ => true) true n 3 ((l.drop 1).take (Tryd.prog.cellsOf 3)) = xs[1]? := hfs 1 _ rfl
  have f2 : DataW.trod enc Tryd.prog W 0 (fun _ => true) true n 4 ((l.drop 2).take (Tryd.prog.cellsOf 4)) = xs[2]? := hfs 2 _ rfl
  have f3 : DataW.trod enc Tryd.prog W 0 (fun _ => true) true n 4 ((l.drop 3).take (Tryd.prog.cellsOf 4)) = xs[3]? := hfs 3 _ rfl
  have f4 : DataW.trod enc Tryd.prog W 0 (fun _ => true) true n 3 ((l.drop 4).take (Tryd.prog.cellsOf 3)) = xs[4]? := hfs 4 _ rfl
  have f5 : DataW.trod enc Tryd.prog W 0 (fun _ => true) true n 3 ((l.drop 5).take (Tryd.prog.cellsOf 3)) = xs[5]? := hfs 5 _ rfl
  have f6 : DataW.trod enc Tryd.prog W 0 (fun _ => true) true n 3 ((l.drop 6).take (Tryd.prog.cellsOf 3)) = xs[6]? := hfs 6 _ rfl
  have f7 : DataW.trod enc Tryd.prog W 0 (fun _ => true) true n 24 ((l.drop 7).take (Tryd.prog.cellsOf 24)) = xs[7]? := hfs 7 _ rfl
  have f8 : DataW.trod enc Tryd.prog W 0 (fun _ => true) true n 24 ((l.drop 24).take (Tryd.prog.cellsOf 24)) = xs[8]? := hfs 8 _ rfl
  have f9 : DataW.trod enc Tryd.prog W 0 (fun _ => true) true n 25 ((l.drop 41).take (Tryd.prog.cellsOf 25)) = xs[9]? := hfs 9 _ rfl
  have f10 : DataW.trod enc Tryd.prog W 0 (fun _ => true) true n 26 ((l.drop 42).take (Tryd.prog.cellsOf 26)) = xs[10]? := hfs 10 _ rfl
  rw [Tryd.cellsI'] at f0
  rw [Tryd.cellsI'] at f1
  rw [Tryd.cellsO'] at f2
  rw [Tryd.cellsO'] at f3
  rw [Tryd.cellsI'] at f4
  rw [Tryd.cellsI'] at f5
  rw [Tryd.cellsI'] at f6
  rw [Tryd.cellsIP'] at f7
  rw [Tryd.cellsIP'] at f8
  rw [Tryd.cellsL'] at f9
  rw [Tryd.cellsS'] at f10
  rw [List.getElem?_eq_getElem (by omega)] at f0 f1 f2 f3 f4 f5 f6 f7 f8 f9 f10
  have hd : d = .agg (xs.map (·.1)) := (Prod.mk.inj hx).1
  have hbk : ∀ i (hi : i < xs.length), Rows.uptoBulk xs[i].1 ≤ 1048576 := by
    intro i hi
    have := bulk_memG (d := xs[i].1) (l := xs.map (·.1)) (List.mem_map.2 ⟨xs[i], List.getElem_mem hi, rfl⟩)
    rw [hd] at hbulk
    simp only [Rows.uptoBulk] at hbulk
    omega
  obtain ⟨z0, e0, _, _⟩ := DataW.trod_int Tryd.underlying3 f0
  obtain ⟨z1, e1, _, _⟩ := DataW.trod_int Tryd.underlying3 f1
  obtain ⟨z2, e2, _⟩ := DataW.trod_bool Tryd.underlying4 f2
  obtain ⟨z3, e3, _⟩ := DataW.trod_bool Tryd.underlying4 f3
  obtain ⟨z4, e4, _, _⟩ := DataW.trod_int Tryd.underlying3 f4
  obtain ⟨z5, e5, _, _⟩ := DataW.trod_int Tryd.underlying3 f5
  obtain ⟨z6, e6, _, _⟩ := DataW.trod_int Tryd.underlying3 f6
  obtain ⟨sv, sx, e7, hsx⟩ := open_ipc f7
  obtain ⟨dv, dx, e8, hdx⟩ := open_ipc f8
  obtain ⟨la, ln, lc, os, e9, hol, hopt, hln, hod⟩ := open_optl f9 (hbk 9 (by omega))
  obtain ⟨da, dn, dc, zs, e10, hrow, hcap⟩ := open_bytes f10
  obtain ⟨bs, hbl, hseg, h1, h2, h3⟩ := hrow.bytes
  have hc10 := hbk 10 (by omega)
  refine ⟨⟨z0, z1, z2, z3, z4, z5, z6, sv, sx, dv, dx, vals os, bs⟩, la, ln, lc, os, da, dn, dc, ?_, ⟨fun i _ => hsx i, fun i _ => hdx i, hol, hopt, rfl, by omega, hbl, hseg, h3, h1, h2, by omega⟩, ⟨hln, by omega, hod⟩⟩
  have hall : l = [.int .i64 z0] ++ ([.int .i64 z1] ++ ([.bool z2] ++ ([.bool z3] ++ ([.int .i64 z4] ++ ([.int .i64 z5] ++ ([.int .i64 z6] ++ ((ipCells sv sx).toList ++ ((ipCells dv dx).toList ++ ([.slice la ln lc] ++ ([.slice da dn dc] ++ l.drop 43)))))))))) := by
    conv => lhs; rw [← List.drop_zero (l := l)]
    rw [drop_piece l _ 0 1 e0, drop_piece l _ 1 1 e1, drop_piece l _ 2 1 e2, drop_piece l _ 3 1 e3, drop_piece l _ 4 1 e4, drop_piece l _ 5 1 e5, drop_piece l _ 6 1 e6, drop_piece l _ 7 17 e7, drop_piece l _ 24 17 e8, drop_piece l _ 41 1 e9, drop_piece l _ 42 1 e10]
  have hnil : l.drop 43 = [] := List.drop_eq_nil_of_le (by omega)
  rw [hnil] at hall
  rw [hall]
  rfl
set_option maxRecDepth 100000 in
theorem open_h4b {H : Type} {enc : TypeId × Value → H} {W : World} {base : Nat} {v : Value} {d : DataW H} {p : List MemPlace} (hv : Value.okWide Tryd.prog W .any base 28 v)
    (h : DataW.Trod enc Tryd.prog W 0 (fun _ => true) true 28 v d p) (hbulk : Rows.uptoBulk d ≤ 1048576) :
    ∃ x la ln lc os da n c, v = .agg (h4C x (.slice la ln lc) (.slice da n c)) ∧ H4Ok W x la ln lc os da n c ∧ H4Sm ln os n := by
  obtain ⟨cs, rfl, hsz⟩ := okWide_struct Tryd.underlying28 hv
  rw [Tryd.cellsH'] at hsz
  obtain ⟨fuel, hf⟩ := h
  obtain ⟨l⟩ := cs
  have hf' : DataW.trod enc Tryd.prog W 0 (fun _ => true) true fuel 28 l = some (d, p) := hf
  have hsz' : l.length = 43 := hsz
  obtain ⟨x, la, ln, lc, os, da, n, c, e, h1, h2⟩ := open_h4c hsz' hf' hbulk
  exact ⟨x, la, ln, lc, os, da, n, c, by rw [e], h1, h2⟩
set_option maxRecDepth 100000 in
theorem open_h4 {H : Type} {enc : TypeId × Value → H} {W : World} {base : Nat} {v : Value} {d : DataW H} {p : List MemPlace} (hv : Value.okWide Tryd.prog W .any base 28 v)
    (h : DataW.Trod enc Tryd.prog W 0 (fun _ => true) true 28 v d p) (hbulk : Rows.uptoBulk d ≤ 1048576) :
    ∃ x la ln lc os da n c, v = .agg (h4C x (.slice la ln lc) (.slice da n c)) ∧ H4Ok W x la ln lc os da n c := by
  obtain ⟨x, la, ln, lc, os, da, n, c, e, h1, _⟩ := open_h4b hv h hbulk
  exact ⟨x, la, ln, lc, os, da, n, c, e, h1⟩
end Go.Proofs.YtdinhgfkpjaipaaDoor
