/-
  weirlaw4: the scripts' steps in memory; steps that came in.
-/
import Derived.Test.YteldiggaooeeeaaGreatDoorAdOq
import Derived.Test.YteldiggaooeeeaaGreatDoorOpenF
namespace Go.Proofs.YteldiggaooeeeaaGreatDoor
open Go.RowKit Go.ChangeShapes Go.WideShapes

/-- a step -/
structure OP where
  k : Int
  s : ByteArray
  aV : Int
  ax : Nat → Nat
  bV : Int
  bx : Nat → Nat
  p : PV
  m : Nat → Nat
  n : Int
def opA (o : OP) : Array Value := #[.int .i64 o.k, .string o.s, .int .i64 o.aV, .int .u8 (o.ax 0 : Nat), .int .u8 (o.ax 1 : Nat), .int .u8 (o.ax 2 : Nat), .int .u8 (o.ax 3 : Nat), .int .u8 (o.ax 4 : Nat), .int .u8 (o.ax 5 : Nat), .int .u8 (o.ax 6 : Nat), .int .u8 (o.ax 7 : Nat), .int .u8 (o.ax 8 : Nat), .int .u8 (o.ax 9 : Nat), .int .u8 (o.ax 10 : Nat), .int .u8 (o.ax 11 : Nat), .int .u8 (o.ax 12 : Nat), .int .u8 (o.ax 13 : Nat), .int .u8 (o.ax 14 : Nat), .int .u8 (o.ax 15 : Nat), .int .i64 o.bV, .int .u8 (o.bx 0 : Nat), .int .u8 (o.bx 1 : Nat), .int .u8 (o.bx 2 : Nat), .int .u8 (o.bx 3 : Nat), .int .u8 (o.bx 4 : Nat), .int .u8 (o.bx 5 : Nat), .int .u8 (o.bx 6 : Nat), .int .u8 (o.bx 7 : Nat), .int .u8 (o.bx 8 : Nat), .int .u8 (o.bx 9 : Nat), .int .u8 (o.bx 10 : Nat), .int .u8 (o.bx 11 : Nat), .int .u8 (o.bx 12 : Nat), .int .u8 (o.bx 13 : Nat), .int .u8 (o.bx 14 : Nat), .int .u8 (o.bx 15 : Nat), .int .i64 o.p.V, .int .u8 (o.p.x 0 : Nat), .int .u8 (o.p.x 1 : Nat), .int .u8 (o.p.x 2 : Nat), .int .u8 (o.p.x 3 : Nat), .int .u8 (o.p.x 4 : Nat), .int .u8 (o.p.x 5 : Nat), .int .u8 (o.p.x 6 : Nat), .int .u8 (o.p.x 7 : Nat), .int .u8 (o.p.x 8 : Nat), .int .u8 (o.p.x 9 : Nat), .int .u8 (o.p.x 10 : Nat), .int .u8 (o.p.x 11 : Nat), .int .u8 (o.p.x 12 : Nat), .int .u8 (o.p.x 13 : Nat), .int .u8 (o.p.x 14 : Nat), .int .u8 (o.p.x 15 : Nat), .int .i64 o.p.n, .int .u8 (o.m 0 : Nat), .int .u8 (o.m 1 : Nat), .int .u8 (o.m 2 : Nat), .int .u8 (o.m 3 : Nat), .int .u8 (o.m 4 : Nat), .int .u8 (o.m 5 : Nat), .int .i64 o.n]
def oq : OP := ⟨0, ⟨#[]⟩, 0, fun _ => 0, 0, fun _ => 0, pz, fun _ => 0, 0⟩
structure OpOk (o : OP) : Prop where
  a : ∀ i, i < 16 → o.ax i < 256
  b : ∀ i, i < 16 → o.bx i < 256
  p : ∀ i, i < 16 → o.p.x i < 256
  m : ∀ i, i < 6 → o.m i < 256
def opL (o : OP) : List Value := (opA o).toList
theorem opL_len (o : OP) : (opL o).length = 61 := rfl
theorem Tryz.size_oph : (Tryz.prog.info? 42).map (·.size) = some 61 := by kernel_rfl
def OphAt (w : World) (O : Nat) (op_ : OP) : Prop := w.heap[O]? = some (.cells (opA op_) 42 (0, 0))
section
variable {w : World} {O : Nat} {op_ : OP} (k : OphAt w O op_)
include k
theorem OphAt.lt : O < w.heap.size := (Array.getElem?_eq_some_iff.1 k).1
theorem OphAt.ch {S : Nat → Prop} {w' : World} (c : Ch S w w') (hS : ¬ S O) : OphAt w' O op_ := (c.block O k.lt hS).trans k
theorem OphAt.below {w' : World} (c : Below w.heap.size w w') : OphAt w' O op_ := (c.block O k.lt).trans k
theorem OphAt.cell (i : Nat) : w.cell? ⟨O, i, none⟩ = (opA op_)[i]? := by unfold OphAt at k; simp [World.cell?, k]
theorem OphAt.fz (j : Nat) : w.frozen? ⟨O, j, none⟩ = false := by unfold OphAt at k; simp [World.frozen?, k]
theorem OphAt.range (o n : Nat) : w.rangeAt O o (((opA op_).extract o (o + n)).toList) := World.rangeAt_of_block k o n
end
theorem oph_new (w : World) (op_ : OP) : OphAt (w.alloc (.cells (opA op_) 42)) w.heap.size op_ := heap_alloc_new _ _
theorem wpList_load_oph {ops : Array Oper} {rest : List Oper} {o : Oper} {a : Act} {w : World} {Q : Exit → Act → World → Prop} (x : Operand) (ho : o.op = .load 42 x) (O : Nat) (op_ : OP) (hx : a.eval x = .pointer (some ⟨O, 0, none⟩)) (hb : OphAt w O op_)
    (hw : Region.wanted o (yielded ops a.tmps) = true) (hh : wpList Tryz.prog ops Q rest (a.put o.dst (.agg (opA op_))) w) : wpList Tryz.prog ops Q (o :: rest) a w := by
  refine wpList_step fun K hK => ?_
  rw [if_pos hw]
  exact wp_load_row 42 x ho O hx _ _ _ _ hb Tryz.underlying42 rfl Tryz.size_oph (hK _ _ hh)
theorem wpList_mid_oph {ops : Array Oper} {rest : List Oper} {o : Oper} {a : Act} {w : World} {Q : Exit → Act → World → Prop} (x : Operand) (ho : o.op = .load 42 x) (O off : Nat) (op_ : OP) (hx : a.eval x = .pointer (some ⟨O, off, none⟩)) (hb : w.rangeAt O off (opA op_).toList)
    (hw : Region.wanted o (yielded ops a.tmps) = true) (h : wpList Tryz.prog ops Q rest (a.put o.dst (.agg (opA op_))) w) : wpList Tryz.prog ops Q (o :: rest) a w := by
  refine wpList_step fun K hK => ?_
  rw [if_pos hw]
  exact wp_load_mid 42 x ho O off hx (opA op_).toList _ hb Tryz.underlying42 rfl Tryz.size_oph (hK _ _ h)
theorem OphAt.ra {w : World} {O : Nat} {o : OP} (h : OphAt w O o) : w.rangeAt O 2 (ipCells o.aV o.ax).toList := by
  have e : ((opA o).extract 2 (2 + 17)).toList = (ipCells o.aV o.ax).toList := by kernel_rfl
  rw [← e]
  exact OphAt.range h 2 17
theorem OphAt.rb {w : World} {O : Nat} {o : OP} (h : OphAt w O o) : w.rangeAt O 19 (ipCells o.bV o.bx).toList := by
  have e : ((opA o).extract 19 (19 + 17)).toList = (ipCells o.bV o.bx).toList := by kernel_rfl
  rw [← e]
  exact OphAt.range h 19 17
theorem OphAt.rp {w : World} {O : Nat} {o : OP} (h : OphAt w O o) : w.rangeAt O 36 (pfC o.p).toList := by
  have e : ((opA o).extract 36 (36 + 18)).toList = (pfC o.p).toList := by kernel_rfl
  rw [← e]
  exact OphAt.range h 36 18
theorem OphAt.rm {w : World} {O : Nat} {o : OP} (h : OphAt w O o) : w.rangeAt O 54 (macC o.m).toList := by
  have e : ((opA o).extract 54 (54 + 6)).toList = (macC o.m).toList := by kernel_rfl
  rw [← e]
  exact OphAt.range h 54 6
theorem Tryz.cellsOp' : Tryz.prog.cellsOf 42 = 61 := by kernel_rfl
theorem Tryz.cellsS' : Tryz.prog.cellsOf 9 = 1 := by kernel_rfl
theorem cutL (l : List Value) (n k : Nat) : l.drop n = (l.drop n).take k ++ l.drop (n + k) := by
  rw [← List.drop_drop]
  exact (List.take_append_drop k _).symm
theorem op_split (l : List Value) (h : l.length = 61) : l = (l.drop 0).take 1 ++ ((l.drop 1).take 1 ++ ((l.drop 2).take 17 ++ ((l.drop 19).take 17 ++ ((l.drop 36).take 18 ++ ((l.drop 54).take 6 ++ (l.drop 60).take 1))))) := by
  have e6 : (l.drop 60).take 1 = l.drop 60 := List.take_of_length_le (by simp; omega)
  rw [e6, ← cutL l 54 6, ← cutL l 36 18, ← cutL l 19 17, ← cutL l 2 17, ← cutL l 1 1, ← cutL l 0 1, List.drop_zero]
section
variable {H : Type} {enc : TypeId × Value → H} {W : World}
set_option maxRecDepth 100000 in
theorem open_pfl {fuel : Nat} {l : List Value} {x : DataW H × List MemPlace} (hf' : DataW.trod enc Tryz.prog W 0 (fun _ => true) true fuel 38 l = some x) : ∃ q : PV, l = (pfC q).toList ∧ ∀ i, i < 16 → q.x i < 256 := by
  obtain ⟨d, p⟩ := x
  obtain ⟨xs, n, _, hx, hl, hlen, hfs⟩ := DataW.trod_struct Tryz.underlying38 hf'
  rw [Tryz.cellsPf] at hl
  have hxl : xs.length = 2 := hlen
  have f0 : DataW.trod enc Tryz.prog W 0 (fun _ => true) true n 28 ((l.drop 0).take (Tryz.prog.cellsOf 28)) = xs[0]? := hfs 0 _ rfl
  have f1 : DataW.trod enc Tryz.prog W 0 (fun _ => true) true n 3 ((l.drop 17).take (Tryz.prog.cellsOf 3)) = xs[1]? := hfs 1 _ rfl
  rw [Tryz.cellsIP'] at f0
  rw [Tryz.cellsI'] at f1
  rw [List.getElem?_eq_getElem (by omega)] at f0 f1
  obtain ⟨V, x, e0, hx'⟩ := open_ipc f0
  obtain ⟨k, e1, _, _⟩ := DataW.trod_int Tryz.underlying3 f1
  refine ⟨⟨V, x, k⟩, ?_, fun i _ => hx' i⟩
  rw [pf_split l hl, e0, e1]
  rfl
set_option maxRecDepth 100000 in
theorem open_opw {fuel : Nat} {l : List Value} {x : DataW H × List MemPlace} (hf : DataW.trod enc Tryz.prog W 0 (fun _ => true) true fuel 42 l = some x) : ∃ o : OP, l = opL o ∧ OpOk o := by
  obtain ⟨xs, n, _, hx, hl, hlen, hfs⟩ := DataW.trod_struct Tryz.underlying42 hf
  rw [Tryz.cellsOp'] at hl
  have hxl : xs.length = 7 := hlen
  have f0 : DataW.trod enc Tryz.prog W 0 (fun _ => true) true n 3 ((l.drop 0).take (Tryz.prog.cellsOf 3)) = xs[0]? := hfs 0 _ rfl
  have f1 : DataW.trod enc Tryz.prog W 0 (fun _ => true) true n 9 ((l.drop 1).take (Tryz.prog.cellsOf 9)) = xs[1]? := hfs 1 _ rfl
  have f2 : DataW.trod enc Tryz.prog W 0 (fun _ => true) true n 28 ((l.drop 2).take (Tryz.prog.cellsOf 28)) = xs[2]? := hfs 2 _ rfl
  have f3 : DataW.trod enc Tryz.prog W 0 (fun _ => true) true n 28 ((l.drop 19).take (Tryz.prog.cellsOf 28)) = xs[3]? := hfs 3 _ rfl
  have f4 : DataW.trod enc Tryz.prog W 0 (fun _ => true) true n 38 ((l.drop 36).take (Tryz.prog.cellsOf 38)) = xs[4]? := hfs 4 _ rfl
  have f5 : DataW.trod enc Tryz.prog W 0 (fun _ => true) true n 40 ((l.drop 54).take (Tryz.prog.cellsOf 40)) = xs[5]? := hfs 5 _ rfl
  have f6 : DataW.trod enc Tryz.prog W 0 (fun _ => true) true n 3 ((l.drop 60).take (Tryz.prog.cellsOf 3)) = xs[6]? := hfs 6 _ rfl
  rw [Tryz.cellsI'] at f0 f6
  rw [Tryz.cellsS'] at f1
  rw [Tryz.cellsIP'] at f2 f3
  rw [Tryz.cellsPf] at f4
  rw [Tryz.cellsMac] at f5
  rw [List.getElem?_eq_getElem (by omega)] at f0 f1 f2 f3 f4 f5 f6
  obtain ⟨kd, e0, _, _⟩ := DataW.trod_int Tryz.underlying3 f0
  obtain ⟨s, e1, _, _⟩ := DataW.trod_string Tryz.underlying9 f1
  obtain ⟨aV, ax, e2, ha⟩ := open_ipc f2
  obtain ⟨bV, bx, e3, hb⟩ := open_ipc f3
  obtain ⟨p, e4, hp⟩ := open_pfl f4
  obtain ⟨m, e5, hm⟩ := open_mac (by rw [List.length_take, List.length_drop]; omega) f5
  obtain ⟨k, e6, _, _⟩ := DataW.trod_int Tryz.underlying3 f6
  refine ⟨⟨kd, s, aV, ax, bV, bx, p, m, k⟩, ?_, fun i _ => ha i, fun i _ => hb i, hp, fun i _ => hm i⟩
  rw [op_split l hl, e0, e1, e2, e3, e4, e5, e6]
  rfl
theorem open_ops {fuel : Nat} {a : Option Addr} {len cap : Nat} {d : DataW H} {p : List MemPlace} (hf : DataW.trod enc Tryz.prog W 0 (fun _ => true) true fuel 22 [.slice a len cap] = some (d, p)) :
    ∃ rs : List OP, rs.length = len ∧ ListG 61 opL OpOk W a rs ∧ len ≤ maxLen :=
  open_listF 61 opL OpOk Tryz.underlying22 Tryz.cellsOp' (by decide) opL_len (fun _ _ _ h => open_opw h) hf
end
/-- the i-th step, where it lies -/
theorem op_at {w w' : World} {a : Option Addr} {ops : List OP} (h : ListG 61 opL OpOk w a ops) (b : Below w.heap.size w w') (i : Nat) (hi : i < ops.length) : ∃ o : OP, OpOk o ∧ ∃ g off, a = some ⟨g, off, none⟩ ∧ w'.rangeAt g (off + i * 61) (opA o).toList := by
  obtain ⟨hok, g, off, ha, hlt, hc⟩ := (ListG.old h b).at i ops[i] (List.getElem?_eq_getElem hi)
  refine ⟨ops[i], hok, g, off, ha, fun j v hj => ?_⟩
  have hj' : j < 61 := (List.getElem?_eq_some_iff.1 hj).1
  rw [hc j hj']
  exact hj
end Go.Proofs.YteldiggaooeeeaaGreatDoor
