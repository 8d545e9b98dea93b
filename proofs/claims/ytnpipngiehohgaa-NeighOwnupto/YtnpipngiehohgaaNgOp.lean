/-
  Layer 15: the scripts' steps in memory; steps and a configuration that came in.
-/
import Derived.Test.YtnpipngiehohgaaNgH2
import Derived.Test.YtnpipngiehohgaaOpenG
namespace Go.Proofs.Ytnpipngiehohgaa
open Go.RowKit Go.ChangeShapes Go.WideShapes

/-- a step -/
structure OV where
  kd : Int
  tw : Bool
  k : KV
  m : Nat → Nat
  n : Int
def opC (o : OV) : Array Value := #[.int .i64 o.kd, .bool o.tw, .int .i64 o.k.pt, .int .i64 o.k.V, .int .u8 (o.k.x 0 : Nat), .int .u8 (o.k.x 1 : Nat), .int .u8 (o.k.x 2 : Nat), .int .u8 (o.k.x 3 : Nat), .int .u8 (o.k.x 4 : Nat), .int .u8 (o.k.x 5 : Nat), .int .u8 (o.k.x 6 : Nat), .int .u8 (o.k.x 7 : Nat), .int .u8 (o.k.x 8 : Nat), .int .u8 (o.k.x 9 : Nat), .int .u8 (o.k.x 10 : Nat), .int .u8 (o.k.x 11 : Nat), .int .u8 (o.k.x 12 : Nat), .int .u8 (o.k.x 13 : Nat), .int .u8 (o.k.x 14 : Nat), .int .u8 (o.k.x 15 : Nat), .int .u8 (o.m 0 : Nat), .int .u8 (o.m 1 : Nat), .int .u8 (o.m 2 : Nat), .int .u8 (o.m 3 : Nat), .int .u8 (o.m 4 : Nat), .int .u8 (o.m 5 : Nat), .int .i64 o.n]
def oz : OV := ⟨0, false, kz, fun _ => 0, 0⟩
structure OpOk (o : OV) : Prop where
  k : o.k.Wf
  m : ∀ i, i < 6 → o.m i < 256
  d : (Lit.int .i64 o.kd).wf = true
  n : (Lit.int .i64 o.n).wf = true
def ocL (o : OV) : List Value := (opC o).toList
theorem ocL_len (o : OV) : (ocL o).length = 27 := rfl
theorem Try.size_opv : (Try.prog.info? 35).map (·.size) = some 27 := by kernel_rfl
def OpvAt (w : World) (O : Nat) (ov : OV) : Prop := w.heap[O]? = some (.cells (opC ov) 35 (0, 0))
section
variable {w : World} {O : Nat} {ov : OV} (k : OpvAt w O ov)
include k
theorem OpvAt.lt : O < w.heap.size := (Array.getElem?_eq_some_iff.1 k).1
theorem OpvAt.ch {S : Nat → Prop} {w' : World} (c : Ch S w w') (hS : ¬ S O) : OpvAt w' O ov := (c.block O k.lt hS).trans k
theorem OpvAt.below {w' : World} (c : Below w.heap.size w w') : OpvAt w' O ov := (c.block O k.lt).trans k
theorem OpvAt.cell (i : Nat) : w.cell? ⟨O, i, none⟩ = (opC ov)[i]? := by unfold OpvAt at k; simp [World.cell?, k]
theorem OpvAt.fz (j : Nat) : w.frozen? ⟨O, j, none⟩ = false := by unfold OpvAt at k; simp [World.frozen?, k]
theorem OpvAt.range (o n : Nat) : w.rangeAt O o (((opC ov).extract o (o + n)).toList) := World.rangeAt_of_block k o n
end
theorem opv_new (w : World) (ov : OV) : OpvAt (w.alloc (.cells (opC ov) 35)) w.heap.size ov := heap_alloc_new _ _
theorem wpList_load_opv {ops : Array Oper} {rest : List Oper} {o : Oper} {a : Act} {w : World} {Q : Exit → Act → World → Prop} (x : Operand) (ho : o.op = .load 35 x) (O : Nat) (ov : OV) (hx : a.eval x = .pointer (some ⟨O, 0, none⟩)) (hb : OpvAt w O ov)
    (hw : Region.wanted o (yielded ops a.tmps) = true) (hh : wpList Try.prog ops Q rest (a.put o.dst (.agg (opC ov))) w) : wpList Try.prog ops Q (o :: rest) a w := by
  refine wpList_step fun K hK => ?_
  rw [if_pos hw]
  exact wp_load_row 35 x ho O hx _ _ _ _ hb Try.underlying35 rfl Try.size_opv (hK _ _ hh)
theorem wpList_store_opv {ops : Array Oper} {rest : List Oper} {o : Oper} {a : Act} {w : World} {Q : Exit → Act → World → Prop} (x y : Operand) (ho : o.op = .store 35 x y) (hd : o.dst = none) (O : Nat) (ov : OV) (ov' : OV) (hx : a.eval x = .pointer (some ⟨O, 0, none⟩)) (hy : a.eval y = .agg (opC ov')) (hb : OpvAt w O ov)
    (hw : Region.wanted o (yielded ops a.tmps) = true) (hh : ∀ w', OpvAt w' O ov' → Ch (fun q => q = O) w w' → wpList Try.prog ops Q rest a w') : wpList Try.prog ops Q (o :: rest) a w := by
  refine wpList_step fun K hK => ?_
  rw [if_pos hw]
  refine wp_store_row 35 x y ho O (opC ov') hx hy _ (opC ov) hb Try.size_opv rfl (by simp [opC, Value.oneCell']) (hK _ _ ?_)
  rw [hd]
  refine hh _ (setRow_heap w O _ _ _ _ hb) ⟨rfl, rfl, rfl, ?_, ?_⟩
  · simp [World.setRow]
  · intro k hk hne
    simp only [World.setRow]
    rw [Array.getElem?_modify, if_neg (fun e => hne e.symm)]
theorem wpList_alloc_opv {ops : Array Oper} {rest : List Oper} {o : Oper} {a : Act} {w : World} {Q : Exit → Act → World → Prop} (ho : o.op = .alloc 35) (hw : Region.wanted o (yielded ops a.tmps) = true)
    (h : wpList Try.prog ops Q rest (a.put o.dst (.pointer (some ⟨w.heap.size, 0, none⟩))) (w.alloc (.cells (opC oz) 35))) : wpList Try.prog ops Q (o :: rest) a w := by
  refine wpList_step fun K hK => ?_
  rw [if_pos hw]
  have hrun : (execOp a.eval o).run Try.prog w = .ok (.value (.pointer (some ⟨w.heap.size, 0, none⟩))) (w.alloc (.cells (opC oz) 35)) := by
    obtain ⟨dst, op, type, pos, after, guard⟩ := o
    simp only at ho
    subst ho
    simp only [execOp]
    go_simp
    rfl
  unfold Oper.wp
  rw [hrun]
  exact hK _ _ h
theorem yields_opv {ops : Array Oper} {o : Oper} {a : Act} {S : World → Prop} (x : Operand) (ho : o.op = .load 35 x) (O off : Nat) (ov : OV) (hx : a.eval x = .pointer (some ⟨O, off, none⟩)) (hw : Region.wanted o (yielded ops a.tmps) = true) (hS : ∀ w, S w → w.rangeAt O off (opC ov).toList) : YieldsIf Try.prog ops S o (.agg (opC ov)) a :=
  yieldsIf_load_mid hw 35 x ho O off hx (opC ov).toList _ hS Try.underlying35 rfl Try.size_opv
theorem wpList_mid_opv {ops : Array Oper} {rest : List Oper} {o : Oper} {a : Act} {w : World} {Q : Exit → Act → World → Prop} (x : Operand) (ho : o.op = .load 35 x) (O off : Nat) (ov : OV) (hx : a.eval x = .pointer (some ⟨O, off, none⟩)) (hb : w.rangeAt O off (opC ov).toList)
    (hw : Region.wanted o (yielded ops a.tmps) = true) (h : wpList Try.prog ops Q rest (a.put o.dst (.agg (opC ov))) w) : wpList Try.prog ops Q (o :: rest) a w := by
  refine wpList_step fun K hK => ?_
  rw [if_pos hw]
  exact wp_load_mid 35 x ho O off hx (opC ov).toList _ hb Try.underlying35 rfl Try.size_opv (hK _ _ h)
theorem results_opv {fn : Func} {p : Tmp} (h : fn.results = #[.cell p 35]) (tmps : Array Value) (w : World) (O : Nat) (ov : OV) (hp : tmps.getD p undef = .pointer (some ⟨O, 0, none⟩)) (hb : OpvAt w O ov) :
    (results fn tmps).run Try.prog w = .ok (.agg (opC ov)) w :=
  results_cell_row h tmps w O _ (opC ov) _ _ hp hb Try.underlying35 rfl Try.size_opv

theorem OpvAt.ip {w : World} {O : Nat} {o : OV} (h : OpvAt w O o) : w.rangeAt O 3 (ipCells o.k.V o.k.x).toList := by
  have e := OpvAt.range h 3 17
  exact e
theorem OpvAt.mac {w : World} {O : Nat} {o : OV} (h : OpvAt w O o) : w.rangeAt O 20 (macC o.m).toList := by
  have e := OpvAt.range h 20 6
  exact e
theorem OpvAt.not {A : World} {t M O : Nat} {c : CF} {E : List EV} {o : OV} (h : OpvAt A O o) (hc : CA A t M c E) : ¬ CB t M E O := cb_apart hc h (by decide) (by decide) (by decide)
theorem CfgAt.not {A : World} {t M O : Nat} {c d : CF} {E : List EV} (h : CfgAt A O d) (hc : CA A t M c E) : ¬ CB t M E O := cb_apart hc h (by decide) (by decide) (by decide)
theorem NL.not {A : World} {t M b : Nat} {c : CF} {E : List EV} {v : Value} {L : List NB} (h : NL A b v L) (hc : CA A t M c E) : ∀ g, v.ownBlock = some g → ¬ CB t M E g := fun g hg => by
  obtain ⟨_, _, cc, hcc⟩ := h.cells g hg
  exact cb_apart hc hcc (by decide) (by decide) (by decide)
theorem AL.not {A : World} {t M b : Nat} {c : CF} {E : List EV} {v : Value} {L : List AK} (h : AL A b v L) (hc : CA A t M c E) : ∀ g, v.ownBlock = some g → ¬ CB t M E g := fun g hg => by
  obtain ⟨_, _, cc, hcc⟩ := h.cells g hg
  exact cb_apart hc hcc (by decide) (by decide) (by decide)
theorem Try.cellsA' : Try.prog.cellsOf 29 = 16 := by kernel_rfl
theorem Try.cellsI' : Try.prog.cellsOf 3 = 1 := by kernel_rfl
theorem Try.cellsB' : Try.prog.cellsOf 5 = 1 := by kernel_rfl
theorem Try.cellsBo' : Try.prog.cellsOf 4 = 1 := by kernel_rfl
theorem Try.cellsM' : Try.prog.cellsOf 33 = 6 := by kernel_rfl
theorem Try.cellsIP' : Try.prog.cellsOf 31 = 17 := by kernel_rfl
theorem Try.cellsOp' : Try.prog.cellsOf 35 = 27 := by kernel_rfl
theorem Try.cellsCf' : Try.prog.cellsOf 23 = 5 := by kernel_rfl
theorem cutL (l : List Value) (n k : Nat) : l.drop n = (l.drop n).take k ++ l.drop (n + k) := by
  rw [← List.drop_drop]
  exact (List.take_append_drop k _).symm
theorem op_split (l : List Value) (h : l.length = 27) : l = (l.drop 0).take 1 ++ ((l.drop 1).take 1 ++ ((l.drop 2).take 1 ++ ((l.drop 3).take 17 ++ ((l.drop 20).take 6 ++ (l.drop 26).take 1)))) := by
  have e6 : (l.drop 26).take 1 = l.drop 26 := List.take_of_length_le (by simp; omega)
  rw [e6, ← cutL l 20 6, ← cutL l 3 17, ← cutL l 2 1, ← cutL l 1 1, ← cutL l 0 1, List.drop_zero]
section
variable {H : Type} {enc : TypeId × Value → H} {W : World}
set_option maxRecDepth 100000 in
theorem open_ipw {fuel : Nat} {cs : List Value} {x : DataW H × List MemPlace} (hf : DataW.trod enc Try.prog W 0 (fun _ => true) true fuel 31 cs = some x) : ∃ (V : Int) (y : Nat → Nat), cs = (ipCells V y).toList ∧ (Lit.int .i64 V).wf = true ∧ ∀ i, y i < 256 := by
  obtain ⟨xs, n, _, hx, hl, hlen, hfs⟩ := DataW.trod_struct Try.underlying31 hf
  rw [Try.cellsIP'] at hl
  have f0 : DataW.trod enc Try.prog W 0 (fun _ => true) true n 3 ((cs.drop 0).take (Try.prog.cellsOf 3)) = xs[0]? := hfs 0 _ rfl
  have f1 : DataW.trod enc Try.prog W 0 (fun _ => true) true n 29 ((cs.drop 1).take (Try.prog.cellsOf 29)) = xs[1]? := hfs 1 _ rfl
  have hxl : xs.length = 2 := hlen
  rw [Try.cellsI'] at f0
  rw [Try.cellsA'] at f1
  match cs, hl with
  | c0 :: r, hsz =>
    have hr : r.length = 16 := by simpa using hsz
    rw [List.getElem?_eq_getElem (by omega)] at f0 f1
    simp only [List.drop_zero, List.drop_succ_cons, List.take_succ_cons, List.take_zero] at f0 f1
    obtain ⟨V, e0, _, wV⟩ := DataW.trod_int Try.underlying3 f0
    simp only [List.cons.injEq, and_true] at e0
    rw [List.take_of_length_le (by omega)] at f1
    obtain ⟨ys, m, _, _, _, hyl, hel⟩ := DataW.trod_array Try.underlying29 f1
    have hb : ∀ i, i < 16 → ∃ a : Nat, a < 256 ∧ r[i]? = some (.int .u8 (a : Int)) := by
      intro i hi
      have h1 := hel i hi
      rw [Try.cellsB', Nat.mul_one, List.getElem?_eq_getElem (by omega), List.drop_eq_getElem_cons (show i < r.length by omega), List.take_succ_cons, List.take_zero] at h1
      obtain ⟨a, e1, _, wa⟩ := DataW.trod_int Try.underlying5 h1
      simp only [List.cons.injEq, and_true] at e1
      simp [Lit.wf, IntKind.min, IntKind.max, IntKind.bits, IntKind.signed] at wa
      refine ⟨a.toNat, by omega, ?_⟩
      rw [List.getElem?_eq_getElem (show i < r.length by omega), e1]
      congr 2
      omega
    refine ⟨V, fun i => match r[i]? with | some (.int _ a) => a.toNat | _ => 0, ?_, wV, fun i => ?_⟩
    rotate_left
    · by_cases hi : i < 16
      · obtain ⟨a, hlt, ha⟩ := hb i hi
        simp only [ha]
        omega
      · have hn : r[i]? = none := List.getElem?_eq_none (by omega)
        simp [hn]
    rw [ipCells_eq, e0]
    congr 1
    apply List.ext_getElem?
    intro i
    by_cases hi : i < 16
    · obtain ⟨a, _, ha⟩ := hb i hi
      rw [ha]
      simp [hi, ha]
    · rw [List.getElem?_eq_none (by omega), List.getElem?_eq_none (by simp; omega)]
theorem open_macw {fuel : Nat} {r : List Value} {x : DataW H × List MemPlace} (hr : r.length = 6) (hf : DataW.trod enc Try.prog W 0 (fun _ => true) true fuel 33 r = some x) : ∃ y : Nat → Nat, r = (macC y).toList ∧ ∀ i, y i < 256 := by
  obtain ⟨d, p⟩ := x
  obtain ⟨ys, m, _, _, _, hyl, hel⟩ := DataW.trod_array Try.underlying33 hf
  have hb : ∀ i, i < 6 → ∃ a : Nat, a < 256 ∧ r[i]? = some (.int .u8 (a : Int)) := by
    intro i hi
    have h1 := hel i hi
    rw [Try.cellsB', Nat.mul_one, List.getElem?_eq_getElem (by omega), List.drop_eq_getElem_cons (show i < r.length by omega), List.take_succ_cons, List.take_zero] at h1
    obtain ⟨a, e1, _, wa⟩ := DataW.trod_int Try.underlying5 h1
    simp only [List.cons.injEq, and_true] at e1
    simp [Lit.wf, IntKind.min, IntKind.max, IntKind.bits, IntKind.signed] at wa
    refine ⟨a.toNat, by omega, ?_⟩
    rw [List.getElem?_eq_getElem (show i < r.length by omega), e1]
    congr 2
    omega
  refine ⟨fun i => match r[i]? with | some (.int _ a) => a.toNat | _ => 0, ?_, fun i => ?_⟩
  rotate_left
  · by_cases hi : i < 6
    · obtain ⟨a, hlt, ha⟩ := hb i hi
      simp only [ha]
      omega
    · have hn : r[i]? = none := List.getElem?_eq_none (by omega)
      simp [hn]
  rw [show ∀ f : Nat → Nat, (macC f).toList = (List.range 6).map (fun i => Value.int .u8 (f i : Nat)) from fun _ => rfl]
  apply List.ext_getElem?
  intro i
  by_cases hi : i < 6
  · obtain ⟨a, _, ha⟩ := hb i hi
    rw [ha]
    simp [hi, ha]
  · rw [List.getElem?_eq_none (by omega), List.getElem?_eq_none (by simp; omega)]

set_option maxRecDepth 100000 in
theorem open_opw {fuel : Nat} {l : List Value} {x : DataW H × List MemPlace} (hf : DataW.trod enc Try.prog W 0 (fun _ => true) true fuel 35 l = some x) : ∃ o : OV, l = ocL o ∧ OpOk o := by
  obtain ⟨xs, n, _, hx, hl, hlen, hfs⟩ := DataW.trod_struct Try.underlying35 hf
  rw [Try.cellsOp'] at hl
  have hxl : xs.length = 6 := hlen
  have f0 : DataW.trod enc Try.prog W 0 (fun _ => true) true n 3 ((l.drop 0).take (Try.prog.cellsOf 3)) = xs[0]? := hfs 0 _ rfl
  have f1 : DataW.trod enc Try.prog W 0 (fun _ => true) true n 4 ((l.drop 1).take (Try.prog.cellsOf 4)) = xs[1]? := hfs 1 _ rfl
  have f2 : DataW.trod enc Try.prog W 0 (fun _ => true) true n 3 ((l.drop 2).take (Try.prog.cellsOf 3)) = xs[2]? := hfs 2 _ rfl
  have f3 : DataW.trod enc Try.prog W 0 (fun _ => true) true n 31 ((l.drop 3).take (Try.prog.cellsOf 31)) = xs[3]? := hfs 3 _ rfl
  have f4 : DataW.trod enc Try.prog W 0 (fun _ => true) true n 33 ((l.drop 20).take (Try.prog.cellsOf 33)) = xs[4]? := hfs 4 _ rfl
  have f5 : DataW.trod enc Try.prog W 0 (fun _ => true) true n 3 ((l.drop 26).take (Try.prog.cellsOf 3)) = xs[5]? := hfs 5 _ rfl
  rw [Try.cellsI'] at f0 f2 f5
  rw [Try.cellsBo'] at f1
  rw [Try.cellsIP'] at f3
  rw [Try.cellsM'] at f4
  rw [List.getElem?_eq_getElem (by omega)] at f0 f1 f2 f3 f4 f5
  obtain ⟨kd, e0, _, wd⟩ := DataW.trod_int Try.underlying3 f0
  obtain ⟨tw, e1, _⟩ := DataW.trod_bool Try.underlying4 f1
  obtain ⟨pt, e2, _, wp⟩ := DataW.trod_int Try.underlying3 f2
  obtain ⟨V, y, e3, wV, hy⟩ := open_ipw f3
  obtain ⟨m, e4, hm⟩ := open_macw (by rw [List.length_take, List.length_drop]; omega) f4
  obtain ⟨k, e5, _, wk⟩ := DataW.trod_int Try.underlying3 f5
  refine ⟨⟨kd, tw, ⟨pt, V, y⟩, m, k⟩, ?_, ⟨wV, wp, fun i _ => hy i⟩, fun i _ => hm i, wd, wk⟩
  rw [op_split l hl, e0, e1, e2, e3, e4, e5]
  rfl
theorem open_ops {fuel : Nat} {a : Option Addr} {len cap : Nat} {d : DataW H} {p : List MemPlace} (hf : DataW.trod enc Try.prog W 0 (fun _ => true) true fuel 24 [.slice a len cap] = some (d, p)) (hb : Rows.uptoBulk d ≤ 1048576) :
    ∃ rs : List OV, rs.length = len ∧ ListG 27 ocL OpOk W a rs ∧ len ≤ 1048576 :=
  open_list 27 ocL OpOk Try.underlying24 Try.cellsOp' (by decide) ocL_len (fun _ _ _ h _ => open_opw h) hf hb
theorem five (l : List Value) (h : l.length = 5) : ∃ a b c d e, l = [a, b, c, d, e] := by
  match l, h with
  | [a, b, c, d, e], _ => exact ⟨a, b, c, d, e, rfl⟩
set_option maxRecDepth 100000 in
theorem open_cfw {fuel : Nat} {l : List Value} {x : DataW H × List MemPlace} (hf : DataW.trod enc Try.prog W 0 (fun _ => true) true fuel 23 l = some x) : ∃ c : CF, l = (cfC c).toList := by
  obtain ⟨xs, n, _, hx, hl, hlen, hfs⟩ := DataW.trod_struct Try.underlying23 hf
  rw [Try.cellsCf'] at hl
  have hxl : xs.length = 5 := hlen
  have f0 : DataW.trod enc Try.prog W 0 (fun _ => true) true n 3 ((l.drop 0).take (Try.prog.cellsOf 3)) = xs[0]? := hfs 0 _ rfl
  have f1 : DataW.trod enc Try.prog W 0 (fun _ => true) true n 3 ((l.drop 1).take (Try.prog.cellsOf 3)) = xs[1]? := hfs 1 _ rfl
  have f2 : DataW.trod enc Try.prog W 0 (fun _ => true) true n 3 ((l.drop 2).take (Try.prog.cellsOf 3)) = xs[2]? := hfs 2 _ rfl
  have f3 : DataW.trod enc Try.prog W 0 (fun _ => true) true n 3 ((l.drop 3).take (Try.prog.cellsOf 3)) = xs[3]? := hfs 3 _ rfl
  have f4 : DataW.trod enc Try.prog W 0 (fun _ => true) true n 3 ((l.drop 4).take (Try.prog.cellsOf 3)) = xs[4]? := hfs 4 _ rfl
  rw [Try.cellsI'] at f0 f1 f2 f3 f4
  rw [List.getElem?_eq_getElem (by omega)] at f0 f1 f2 f3 f4
  obtain ⟨a0, a1, a2, a3, a4, rfl⟩ := five l hl
  simp only [List.drop_zero, List.drop_succ_cons, List.take_succ_cons, List.take_zero] at f0 f1 f2 f3 f4
  obtain ⟨z0, e0, _⟩ := DataW.trod_int Try.underlying3 f0
  obtain ⟨z1, e1, _⟩ := DataW.trod_int Try.underlying3 f1
  obtain ⟨z2, e2, _⟩ := DataW.trod_int Try.underlying3 f2
  obtain ⟨z3, e3, _⟩ := DataW.trod_int Try.underlying3 f3
  obtain ⟨z4, e4, _⟩ := DataW.trod_int Try.underlying3 f4
  simp only [List.cons.injEq, and_true] at e0 e1 e2 e3 e4
  subst e0 e1 e2 e3 e4
  exact ⟨⟨z0, z1, z2, z3, z4⟩, rfl⟩
end
set_option maxRecDepth 100000 in
theorem open_cfg {H : Type} {enc : TypeId × Value → H} {W : World} {base : Nat} {v : Value} {d : DataW H} {p : List MemPlace} (hv : Value.okWide Try.prog W .any base 23 v)
    (h : DataW.Trod enc Try.prog W 0 (fun _ => true) true 23 v d p) : ∃ c : CF, v = .agg (cfC c) := by
  obtain ⟨cs, rfl, _⟩ := okWide_struct Try.underlying23 hv
  obtain ⟨fuel, hf⟩ := h
  obtain ⟨l⟩ := cs
  have hf' : DataW.trod enc Try.prog W 0 (fun _ => true) true fuel 23 l = some (d, p) := hf
  obtain ⟨c, e⟩ := open_cfw hf'
  exact ⟨c, by rw [e]⟩
/-- the i-th step, where it lies -/
theorem op_at {w w' : World} {a : Option Addr} {ops : List OV} (h : ListG 27 ocL OpOk w a ops) (b : Below w.heap.size w w') (i : Nat) (hi : i < ops.length) : ∃ o : OV, OpOk o ∧ ∃ g off, a = some ⟨g, off, none⟩ ∧ w'.rangeAt g (off + i * 27) (opC o).toList := by
  obtain ⟨hok, g, off, ha, hlt, hc⟩ := (ListG.old h b).at i ops[i] (List.getElem?_eq_getElem hi)
  refine ⟨ops[i], hok, g, off, ha, fun j v hj => ?_⟩
  have hj' : j < 27 := (List.getElem?_eq_some_iff.1 hj).1
  rw [hc j hj']
  exact hj
end Go.Proofs.Ytnpipngiehohgaa
