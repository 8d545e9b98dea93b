/-
  A message in memory; the table of widths; Fields and Pack of the eight bytes.
-/
import Derived.Test.YtijipfciimcnpaaDoorI8Fn1
import Derived.Laws.Tables
import Derived.Laws.ResultCell
import Derived.Laws.Rows
import Derived.Deep.MidRow
namespace Go.Proofs.YtijipfciimcnpaaDoor
open Go.RowKit
open I8 (M8)

theorem own_below {w w' : World} {base : Nat} {e : TypeId} {sz : Nat} {v : Value} {n : Nat} {xs : List Value} (h : w.ownsRow base e sz v n xs) (hb : Below w.heap.size w w') : w'.ownsRow base e sz v n xs := (Ch.ofBelow (S := fun _ => False) hb).owns h (fun _ _ k => k)
theorem Tryd.sizeM8 : (Tryd.prog.info? 31).map (·.size) = some 5 := by kernel_rfl
def MAt (w : World) (O : Nat) (m : M8) (da : Option Addr) (n c : Nat) : Prop := w.heap[O]? = some (.cells (mC m da n c) 31 (0, 0))
section
variable {w : World} {O : Nat} {m : M8} {da : Option Addr} {n c : Nat} (k : MAt w O m da n c)
include k
theorem MAt.lt : O < w.heap.size := (Array.getElem?_eq_some_iff.1 k).1
theorem MAt.ch {S : Nat → Prop} {w' : World} (h : Ch S w w') (hS : ¬ S O) : MAt w' O m da n c := (h.block O k.lt hS).trans k
theorem MAt.below {w' : World} (h : Below w.heap.size w w') : MAt w' O m da n c := (h.block O k.lt).trans k
theorem MAt.cell (i : Nat) : w.cell? ⟨O, i, none⟩ = (mC m da n c)[i]? := by unfold MAt at k; simp [World.cell?, k]
theorem MAt.c0 : w.cell? ⟨O, 0, none⟩ = some (.int .i64 m.v) := k.cell 0
theorem MAt.c1 : w.cell? ⟨O, 1, none⟩ = some (.int .i64 m.t) := k.cell 1
theorem MAt.c2 : w.cell? ⟨O, 2, none⟩ = some (.int .i64 m.c) := k.cell 2
theorem MAt.c3 : w.cell? ⟨O, 3, none⟩ = some (.int .i64 m.r) := k.cell 3
theorem MAt.c4 : w.cell? ⟨O, 4, none⟩ = some (.slice da n c) := k.cell 4
theorem MAt.fz (j : Nat) : w.frozen? ⟨O, j, none⟩ = false := by
  unfold MAt at k
  simp [World.frozen?, k]
end
theorem mAt_new (w : World) (m : M8) (da : Option Addr) (n c : Nat) : MAt (w.alloc (.cells (mC m da n c) 31)) w.heap.size m da n c := heap_alloc_new _ _
theorem wpList_load_m8 {ops : Array Oper} {rest : List Oper} {o : Oper} {a : Act} {w : World} {Q : Exit → Act → World → Prop} (x : Operand) (ho : o.op = .load 31 x) (O : Nat) (m : M8) (da : Option Addr) (n c : Nat) (hx : a.eval x = .pointer (some ⟨O, 0, none⟩)) (hb : MAt w O m da n c)
    (hw : Region.wanted o (yielded ops a.tmps) = true) (hh : wpList Tryd.prog ops Q rest (a.put o.dst (.agg (mC m da n c))) w) : wpList Tryd.prog ops Q (o :: rest) a w := by
  refine wpList_step fun K hK => ?_
  rw [if_pos hw]
  exact wp_load_row 31 x ho O hx _ _ _ _ hb Tryd.underlying31 rfl Tryd.sizeM8 (hK _ _ hh)
theorem wpList_store_m8 {ops : Array Oper} {rest : List Oper} {o : Oper} {a : Act} {w : World} {Q : Exit → Act → World → Prop} (x y : Operand) (ho : o.op = .store 31 x y) (hd : o.dst = none) (O : Nat) (m m' : M8) (da da' : Option Addr) (n c n' c' : Nat) (hx : a.eval x = .pointer (some ⟨O, 0, none⟩)) (hy : a.eval y = .agg (mC m' da' n' c')) (hb : MAt w O m da n c)
    (hw : Region.wanted o (yielded ops a.tmps) = true) (hh : ∀ w', MAt w' O m' da' n' c' → Ch (fun q => q = O) w w' → wpList Tryd.prog ops Q rest a w') : wpList Tryd.prog ops Q (o :: rest) a w := by
  refine wpList_step fun K hK => ?_
  rw [if_pos hw]
  refine wp_store_row 31 x y ho O (mC m' da' n' c') hx hy _ (mC m da n c) hb Tryd.sizeM8 rfl (by simp [mC, Value.oneCell']) (hK _ _ ?_)
  rw [hd]
  refine hh _ (setRow_heap w O _ _ _ _ hb) ⟨rfl, rfl, rfl, ?_, ?_⟩
  · simp [World.setRow]
  · intro k hk hne
    simp only [World.setRow]
    rw [Array.getElem?_modify, if_neg (fun e => hne e.symm)]
def m8z : M8 := ⟨0, 0, 0, 0, []⟩
theorem built_m0 : Tryd.prog.built 31 [] = some (mC m8z none 0 0) := by kernel_rfl
theorem wpList_build0 {ops : Array Oper} {rest : List Oper} {o : Oper} {a : Act} {w : World} {Q : Exit → Act → World → Prop} (ho : o.op = .build 31 #[]) (hw : Region.wanted o (yielded ops a.tmps) = true)
    (h : wpList Tryd.prog ops Q rest (a.put o.dst (.agg (mC m8z none 0 0))) w) : wpList Tryd.prog ops Q (o :: rest) a w := by
  refine wpList_step fun K hK => ?_
  rw [if_pos hw]
  unfold Oper.wp execOp
  have := run_build (P := Tryd.prog) w 31 #[] _ built_m0
  simp only [ho, Sem.run_bind, List.map_toArray, List.map_nil, this, Result.andThen_ok]
  exact hK _ _ h
theorem wpList_alloc_m8 {ops : Array Oper} {rest : List Oper} {o : Oper} {a : Act} {w : World} {Q : Exit → Act → World → Prop} (ho : o.op = .alloc 31) (hw : Region.wanted o (yielded ops a.tmps) = true)
    (h : wpList Tryd.prog ops Q rest (a.put o.dst (.pointer (some ⟨w.heap.size, 0, none⟩))) (w.alloc (.cells (mC m8z none 0 0) 31))) : wpList Tryd.prog ops Q (o :: rest) a w := by
  refine wpList_step fun K hK => ?_
  rw [if_pos hw]
  have hrun : (execOp a.eval o).run Tryd.prog w = .ok (.value (.pointer (some ⟨w.heap.size, 0, none⟩))) (w.alloc (.cells (mC m8z none 0 0) 31)) := by
    obtain ⟨dst, op, type, pos, after, guard⟩ := o
    simp only at ho
    subst ho
    simp only [execOp]
    go_simp
    rfl
  unfold Oper.wp
  rw [hrun]
  exact hK _ _ h
theorem results_m8_tmp {fn : Func} {p u : Tmp} (h : fn.results = #[.cell p 31, .tmp u]) (tmps : Array Value) (w : World) (O : Nat) (m : M8) (da : Option Addr) (n c : Nat) (hp : tmps.getD p undef = .pointer (some ⟨O, 0, none⟩)) (hb : MAt w O m da n c) :
    (results fn tmps).run Tryd.prog w = .ok (.tuple #[.agg (mC m da n c), tmps.getD u undef]) w := by
  rw [results_cell_tmp h tmps Tryd.prog w, hp]
  simp [asAddr, run_loadVar_row w O _ 31 (mC m da n c) _ _ hb Tryd.underlying31 rfl Tryd.sizeM8, Result.andThen]
theorem yields_int {ops : Array Oper} {o : Oper} {a : Act} {S : World → Prop} (x : Operand) (ho : o.op = .load 3 x) (p : Addr) (u : Value) (hx : a.eval x = .pointer (some p)) (hw : Region.wanted o (yielded ops a.tmps) = true) (hS : ∀ w, S w → w.cell? p = some u) : YieldsIf Tryd.prog ops S o u a := by
  refine .inl ⟨hw, fun w hb => ?_⟩
  have hc := hS w hb
  have hu := Tryd.underlying3
  obtain ⟨dst, op, type, pos, after, guard⟩ := o
  simp only at ho
  subst ho
  simp only [execOp, Sem.run_bind, Sem.run_pure]
  rw [hx]
  simp [Instr.loadAt, go_sem, hc]
theorem cells14 (W : World) (l : List Int) (t : TypeId) : Seg .i64 (W.alloc (.cells (l.map (Value.int .i64)).toArray t)) (some ⟨W.heap.size, 0, none⟩) l := by
  refine .inr ⟨_, _, rfl, ?_⟩
  intro i hi
  rw [Nat.zero_add, World.cell?_alloc_at _ _ _ _ rfl]
  simp [List.getD, hi]
theorem fit_fitI (ws fs : List Nat) (h : M.Fit ws fs) : ∀ j, j < ws.length → 0 ≤ (toI fs).getD j 0 ∧ (toI fs).getD j 0 < 2 ^ (ws.getD j 0) := by
  induction ws generalizing fs with
  | nil => intro j hj; simp at hj
  | cons w ws ih =>
    cases fs with
    | nil => exact absurd h (by simp [M.Fit])
    | cons f fs =>
      obtain ⟨h1, h2⟩ := h
      intro j hj
      cases j with
      | zero => simp [toI]; exact_mod_cast h1
      | succ j =>
        have := ih fs h2 j (by simpa using hj)
        simpa [toI] using this
theorem vOf_all (ws fs : List Nat) (h : fs.length = ws.length) : vOf ws (toI fs) ws.length = M.packN 0 ws fs := by
  unfold vOf
  have e : (toI fs).map Int.toNat = fs := by
    simp only [toI, List.map_map]
    conv => rhs; rw [← List.map_id fs]
    apply List.map_congr_left
    intro x _
    simp
  rw [e, List.take_of_length_le (by omega), List.take_of_length_le (by omega)]
theorem yields_box {ops : Array Oper} {o : Oper} {a : Act} {S : World → Prop} (ty : TypeId) (x : Operand) (ho : o.op = .load ty x) (p : Addr) (cs : Array Value) (hx : a.eval x = .pointer (some p)) (hw : Region.wanted o (yielded ops a.tmps) = true)
    (hS : ∀ w, S w → (loadVar ty p).run Tryd.prog w = .ok (.agg cs) w) : YieldsIf Tryd.prog ops S o (.agg cs) a := by
  refine .inl ⟨hw, fun w hb => ?_⟩
  unfold execOp
  simp only [ho, hx, Instr.loadAt, Instr.sureAddr, Sem.run_bind, Sem.run_pure, Result.andThen_ok, hS w hb]
theorem yields_bytes {ops : Array Oper} {o : Oper} {a : Act} {S : World → Prop} (x : Operand) (ho : o.op = .load 29 x) (p : Addr) (u : Value) (hx : a.eval x = .pointer (some p)) (hw : Region.wanted o (yielded ops a.tmps) = true) (hS : ∀ w, S w → w.cell? p = some u) : YieldsIf Tryd.prog ops S o u a := by
  refine .inl ⟨hw, fun w hb => ?_⟩
  have hc := hS w hb
  have hu := Tryd.underlying29
  obtain ⟨dst, op, type, pos, after, guard⟩ := o
  simp only at ho
  subst ho
  simp only [execOp, Sem.run_bind, Sem.run_pure]
  rw [hx]
  simp [Instr.loadAt, go_sem, hc]
theorem yields_ip {ops : Array Oper} {o : Oper} {a : Act} {S : World → Prop} (x : Operand) (ho : o.op = .load 24 x) (B : Nat) (V : Int) (f : Nat → Nat) (hx : a.eval x = .pointer (some ⟨B, 0, none⟩)) (hw : Region.wanted o (yielded ops a.tmps) = true) (hS : ∀ w, S w → Boxed w B V f) : YieldsIf Tryd.prog ops S o (.agg (ipCells V f)) a := by
  refine .inl ⟨hw, fun w hb => ?_⟩
  have hl := load_ip w B V f (hS w hb)
  obtain ⟨dst, op, type, pos, after, guard⟩ := o
  simp only at ho
  subst ho
  simp only [execOp, Sem.run_bind, Sem.run_pure]
  rw [hx, hl]
  rfl
theorem yields_m8 {ops : Array Oper} {o : Oper} {a : Act} {S : World → Prop} (x : Operand) (ho : o.op = .load 31 x) (O : Nat) (m : M8) (da : Option Addr) (n c : Nat) (hx : a.eval x = .pointer (some ⟨O, 0, none⟩)) (hw : Region.wanted o (yielded ops a.tmps) = true) (hS : ∀ w, S w → MAt w O m da n c) : YieldsIf Tryd.prog ops S o (.agg (mC m da n c)) a :=
  yields_box 31 x ho ⟨O, 0, none⟩ (mC m da n c) hx hw (fun w hw => run_loadVar_row w O _ 31 (mC m da n c) _ _ (hS w hw) Tryd.underlying31 rfl Tryd.sizeM8)
/-- the table lies where the program has it -/
def wid8C : List Value := [.int .i64 8, .int .i64 8, .int .i64 16, .int .i64 32]
def Wid8 (w : World) : Prop := w.rangeAt 0 0 wid8C
theorem Wid8.lt {w : World} (h : Wid8 w) : 0 < w.heap.size := World.block_lt_of_cell? w _ (h 0 _ rfl)
theorem Wid8.old {w w' : World} (h : Wid8 w) (hb : Below w.heap.size w w') : Wid8 w' := fun j v hv => (hb.cell (p := ⟨0, 0 + j, none⟩) h.lt).trans (h j v hv)
theorem Wid8.ch {S : Nat → Prop} {w w' : World} (h : Wid8 w) (k : Ch S w w') (hS : ¬ S 0) : Wid8 w' := fun j v hv => k.cell (h j v hv) hS
theorem wid8_seg (w : World) : Seg .i64 (w.alloc (.cells #[.int .i64 8, .int .i64 8, .int .i64 16, .int .i64 32] 109)) (some ⟨w.heap.size, 0, none⟩) (toI I8.ws8) := by
  refine .inr ⟨_, _, rfl, ?_⟩
  intro i hi
  rw [Nat.zero_add, World.cell?_alloc_at _ _ _ _ rfl]
  have h4 : i < 4 := hi
  have : i = 0 ∨ i = 1 ∨ i = 2 ∨ i = 3 := by omega
  rcases this with rfl | rfl | rfl | rfl <;> rfl
theorem ws8_ok : ∀ x ∈ I8.ws8, 1 ≤ x ∧ x ≤ 32 := by decide
theorem fields8_no (a b : Option Addr) (len cap : Nat) (W : World) (hs : Seg .i64 W b (toI I8.ws8)) (hl : len < 8) (h2 : len ≤ cap) (h3 : cap ≤ 9223372036854775807) :
    Calls Tryd.prog 67 #[.slice a len cap, .int .i64 0, .slice b 4 4] W fun e w' => e = .returned (.tuple #[.slice none 0 0, .int .i64 0, .int .i64 10]) ∧ Below W.heap.size W w' := by
  have e8 : sumI (toI I8.ws8) / 8 = 8 := by decide
  exact fields_out a b len cap 4 0 (toI I8.ws8) W hs (by decide) (by decide) h2 h3 (by decide) (.inr (by rw [e8]; omega))
theorem fields8_ok (a b : Option Addr) (n cap : Nat) (bs : List Nat) (W : World) (hn : bs.length = n) (hb : Seg .u8 W a (toI bs)) (h256 : ∀ x ∈ bs, x < 256) (hs : Seg .i64 W b (toI I8.ws8)) (hl : 8 ≤ n) (h2 : n ≤ cap) (h3 : cap ≤ 9223372036854775807) :
    Calls Tryd.prog 67 #[.slice a n cap, .int .i64 0, .slice b 4 4] W fun e w' => ∃ g c, e = .returned (.tuple #[.slice (some ⟨g, 0, none⟩) 4 c, .int .i64 8, .int .i64 0]) ∧ Below W.heap.size W w' ∧ 4 ≤ c ∧ c ≤ 9223372036854775807 ∧ W.heap.size ≤ g ∧
      w'.cell? ⟨g, 0, none⟩ = some (.int .i64 (bs.getD 0 0 : Nat)) ∧ w'.cell? ⟨g, 1, none⟩ = some (.int .i64 (bs.getD 1 0 : Nat)) ∧ w'.cell? ⟨g, 3, none⟩ = some (.int .i64 ((((bs.getD 4 0 * 256 + bs.getD 5 0) * 256 + bs.getD 6 0) * 256 + bs.getD 7 0 : Nat) : Int)) := by
  subst hn
  refine (fields_ok a b cap 4 0 8 bs I8.ws8 W hb hs h256 (by decide) ws8_ok (by rw [I8.tot8]) (by omega) h2 h3).mono ?_
  rintro e w' ⟨v, rfl, ho, hbb⟩
  rw [I8.tot8, List.drop_zero, I8.take8 bs hl, I8.fields_bl _ (fun i _ => I8.getD_lt bs h256 i), toI_map] at ho
  obtain ⟨g, c, rfl, hc1, hc2⟩ := own_block ho (by decide)
  refine ⟨g, c, rfl, hbb, hc1, by unfold maxLen at hc2; exact hc2, (ho.lt g rfl).1, ?_⟩
  obtain ⟨a', c', e1, hseg, _, _⟩ := owns_seg ho
  simp only [Value.slice.injEq] at e1
  obtain ⟨rfl, _⟩ := e1
  obtain ⟨b', off, e2, hcell⟩ : ∃ b' off, (some ⟨g, 0, none⟩ : Option Addr) = some ⟨b', off, none⟩ ∧ ∀ i, i < (toI (I8.flds (fun i => bs.getD i 0))).length → w'.cell? ⟨b', off + i, none⟩ = some (.int .i64 ((toI (I8.flds (fun i => bs.getD i 0))).getD i 0)) := by
    rcases hseg with h0 | h0
    · cases h0
    · exact h0
  simp only [Option.some.injEq, Addr.mk.injEq] at e2
  obtain ⟨rfl, rfl, _⟩ := e2
  exact ⟨hcell 0 (by simp [toI, I8.flds]), hcell 1 (by simp [toI, I8.flds]), hcell 3 (by simp [toI, I8.flds])⟩
/-- the fields of a message, the sum 0 -/
def mF (m : M8) : List Int := [m.t, m.c, 0, m.r]
theorem pack8_ok (a b : Option Addr) (m : M8) (W : World) (hf : I8.okF m = true) (h1 : Seg .i64 W a (toI I8.ws8)) (h2 : Seg .i64 W b (mF m)) :
    Calls Tryd.prog 56 #[.slice a 4 4, .slice b 4 4] W fun e w' => ∃ g c, e = .returned (.tuple #[.slice (some ⟨g, 0, none⟩) 8 c, .int .i64 0]) ∧ Below W.heap.size W w' ∧ 8 ≤ c ∧ c ≤ 9223372036854775807 ∧ OwnB w' W.heap.size (.slice (some ⟨g, 0, none⟩) 8 c) 8 (I8.hd m 0) := by
  obtain ⟨t, c, r, ht, hc, hr, k1, k2, k3⟩ := I8.okF_nat hf
  have em : mF m = toI [t, c, 0, r] := by unfold mF; rw [ht, hc, hr]; rfl
  have b4 : r / 16777216 < 256 := by omega
  have hb : ∀ i, i < 8 → (fun i => (I8.hd m 0).getD i 0) i < 256 := fun i _ => I8.getD_lt _ (I8.hd_256 m 0 hf (by omega)) i
  have ef : I8.flds (fun i => (I8.hd m 0).getD i 0) = [t, c, 0, r] := by
    unfold I8.flds I8.hd
    rw [ht, hc, hr]
    simp only [Int.toNat_natCast, List.getD, List.getElem?_cons_zero, List.getElem?_cons_succ, Option.getD_some, List.cons.injEq, and_true, true_and]
    omega
  have hfit : M.Fit I8.ws8 [t, c, 0, r] := by rw [← ef]; exact I8.fit_flds _ hb
  have ebl : I8.bl (fun i => (I8.hd m 0).getD i 0) = I8.hd m 0 := rfl
  rw [em] at h2
  refine (pack_any a b 4 4 8 I8.ws8 (toI [t, c, 0, r]) W h1 h2 rfl (by decide) ws8_ok (by rw [I8.tot8])).mono ?_
  rintro e w' ⟨v, er, rfl, hbb, hh⟩
  rcases hh with ⟨_, rfl, ho⟩ | ⟨hno, _⟩
  · rw [vOf_all I8.ws8 [t, c, 0, r] rfl, bytesV, ← ef, I8.bytes_bl _ hb, ebl, toI_map] at ho
    obtain ⟨g, cc, rfl, hc1, hc2⟩ := own_block ho (by decide)
    exact ⟨g, cc, rfl, hbb, hc1, by unfold maxLen at hc2; exact hc2, ho⟩
  · exact absurd (fit_fitI _ _ hfit) hno
end Go.Proofs.YtijipfciimcnpaaDoor
