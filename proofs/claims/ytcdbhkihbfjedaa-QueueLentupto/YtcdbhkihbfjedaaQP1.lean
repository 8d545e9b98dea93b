/-
  Layer 18: a queue beside the document's own: Side in memory; what is asked of a queue under way.
-/
import Derived.Test.YtcdbhkihbfjedaaQR6
namespace Go.Proofs.Ytcdbhkihbfjedaa
open Go.RowKit Go.ChangeShapes Go.WideShapes

structure SV where
  p : Option Addr
  v : RQ
def sdA (s : SV) : Array Value := #[.pointer s.p, .slice s.v.la s.v.n s.v.lc, .int .i64 (s.v.at' : Int), .bool s.v.gv]
def sz0 : SV := ⟨none, qz⟩
theorem Try.size_sdv : (Try.prog.info? 69).map (·.size) = some 4 := by kernel_rfl
def SdvAt (w : World) (O : Nat) (sv : SV) : Prop := w.heap[O]? = some (.cells (sdA sv) 69 (0, 0))
section
variable {w : World} {O : Nat} {sv : SV} (k : SdvAt w O sv)
include k
theorem SdvAt.lt : O < w.heap.size := (Array.getElem?_eq_some_iff.1 k).1
theorem SdvAt.ch {S : Nat → Prop} {w' : World} (c : Ch S w w') (hS : ¬ S O) : SdvAt w' O sv := (c.block O k.lt hS).trans k
theorem SdvAt.below {w' : World} (c : Below w.heap.size w w') : SdvAt w' O sv := (c.block O k.lt).trans k
theorem SdvAt.cell (i : Nat) : w.cell? ⟨O, i, none⟩ = (sdA sv)[i]? := by unfold SdvAt at k; simp [World.cell?, k]
theorem SdvAt.fz (j : Nat) : w.frozen? ⟨O, j, none⟩ = false := by unfold SdvAt at k; simp [World.frozen?, k]
theorem SdvAt.range (o n : Nat) : w.rangeAt O o (((sdA sv).extract o (o + n)).toList) := World.rangeAt_of_block k o n
end
theorem sdv_new (w : World) (sv : SV) : SdvAt (w.alloc (.cells (sdA sv) 69)) w.heap.size sv := heap_alloc_new _ _
theorem wpList_load_sdv {ops : Array Oper} {rest : List Oper} {o : Oper} {a : Act} {w : World} {Q : Exit → Act → World → Prop} (x : Operand) (ho : o.op = .load 69 x) (O : Nat) (sv : SV) (hx : a.eval x = .pointer (some ⟨O, 0, none⟩)) (hb : SdvAt w O sv)
    (hw : Region.wanted o (yielded ops a.tmps) = true) (hh : wpList Try.prog ops Q rest (a.put o.dst (.agg (sdA sv))) w) : wpList Try.prog ops Q (o :: rest) a w := by
  refine wpList_step fun K hK => ?_
  rw [if_pos hw]
  exact wp_load_row 69 x ho O hx _ _ _ _ hb Try.underlying69 rfl Try.size_sdv (hK _ _ hh)
theorem wpList_store_sdv {ops : Array Oper} {rest : List Oper} {o : Oper} {a : Act} {w : World} {Q : Exit → Act → World → Prop} (x y : Operand) (ho : o.op = .store 69 x y) (hd : o.dst = none) (O : Nat) (sv : SV) (sv' : SV) (hx : a.eval x = .pointer (some ⟨O, 0, none⟩)) (hy : a.eval y = .agg (sdA sv')) (hb : SdvAt w O sv)
    (hw : Region.wanted o (yielded ops a.tmps) = true) (hh : ∀ w', SdvAt w' O sv' → Ch (fun q => q = O) w w' → wpList Try.prog ops Q rest a w') : wpList Try.prog ops Q (o :: rest) a w := by
  refine wpList_step fun K hK => ?_
  rw [if_pos hw]
  refine wp_store_row 69 x y ho O (sdA sv') hx hy _ (sdA sv) hb Try.size_sdv rfl (by simp [sdA, Value.oneCell']) (hK _ _ ?_)
  rw [hd]
  refine hh _ (setRow_heap w O _ _ _ _ hb) ⟨rfl, rfl, rfl, ?_, ?_⟩
  · simp [World.setRow]
  · intro k hk hne
    simp only [World.setRow]
    rw [Array.getElem?_modify, if_neg (fun e => hne e.symm)]
theorem wpList_alloc_sdv {ops : Array Oper} {rest : List Oper} {o : Oper} {a : Act} {w : World} {Q : Exit → Act → World → Prop} (ho : o.op = .alloc 69) (hw : Region.wanted o (yielded ops a.tmps) = true)
    (h : wpList Try.prog ops Q rest (a.put o.dst (.pointer (some ⟨w.heap.size, 0, none⟩))) (w.alloc (.cells (sdA sz0) 69))) : wpList Try.prog ops Q (o :: rest) a w := by
  refine wpList_step fun K hK => ?_
  rw [if_pos hw]
  have hrun : (execOp a.eval o).run Try.prog w = .ok (.value (.pointer (some ⟨w.heap.size, 0, none⟩))) (w.alloc (.cells (sdA sz0) 69)) := by
    obtain ⟨dst, op, type, pos, after, guard⟩ := o
    simp only at ho
    subst ho
    simp only [execOp]
    go_simp
    rfl
  unfold Oper.wp
  rw [hrun]
  exact hK _ _ h
theorem yields_sdv {ops : Array Oper} {o : Oper} {a : Act} {S : World → Prop} (x : Operand) (ho : o.op = .load 69 x) (O off : Nat) (sv : SV) (hx : a.eval x = .pointer (some ⟨O, off, none⟩)) (hw : Region.wanted o (yielded ops a.tmps) = true) (hS : ∀ w, S w → w.rangeAt O off (sdA sv).toList) : YieldsIf Try.prog ops S o (.agg (sdA sv)) a :=
  yieldsIf_load_mid hw 69 x ho O off hx (sdA sv).toList _ hS Try.underlying69 rfl Try.size_sdv
theorem wpList_mid_sdv {ops : Array Oper} {rest : List Oper} {o : Oper} {a : Act} {w : World} {Q : Exit → Act → World → Prop} (x : Operand) (ho : o.op = .load 69 x) (O off : Nat) (sv : SV) (hx : a.eval x = .pointer (some ⟨O, off, none⟩)) (hb : w.rangeAt O off (sdA sv).toList)
    (hw : Region.wanted o (yielded ops a.tmps) = true) (h : wpList Try.prog ops Q rest (a.put o.dst (.agg (sdA sv))) w) : wpList Try.prog ops Q (o :: rest) a w := by
  refine wpList_step fun K hK => ?_
  rw [if_pos hw]
  exact wp_load_mid 69 x ho O off hx (sdA sv).toList _ hb Try.underlying69 rfl Try.size_sdv (hK _ _ h)
theorem results_sdv {fn : Func} {p : Tmp} (h : fn.results = #[.cell p 69]) (tmps : Array Value) (w : World) (O : Nat) (sv : SV) (hp : tmps.getD p undef = .pointer (some ⟨O, 0, none⟩)) (hb : SdvAt w O sv) :
    (results fn tmps).run Try.prog w = .ok (.agg (sdA sv)) w :=
  results_cell_row h tmps w O _ (sdA sv) _ _ hp hb Try.underlying69 rfl Try.size_sdv
theorem wpList_box_sdv {ops : Array Oper} {rest : List Oper} {o : Oper} {a : Act} {w : World} {Q : Exit → Act → World → Prop} (x : Operand) (ho : o.op = .box 69 x) (sv : SV) (hx : a.eval x = .agg (sdA sv)) (hw : Region.wanted o (yielded ops a.tmps) = true)
    (h : ∀ B W, Hid (w.heap.size = B ∧ W.heap.size = B + 1) → SdvAt W B sv → Below w.heap.size w W → wpList Try.prog ops Q rest (a.put o.dst (.pointer (some ⟨B, 0, none⟩))) W) : wpList Try.prog ops Q (o :: rest) a w := by
  refine wpList_step fun K hK => ?_
  rw [if_pos hw]
  have hrun : (execOp a.eval o).run Try.prog w = .ok (.value (.pointer (some ⟨w.heap.size, 0, none⟩))) (w.alloc (.cells (sdA sv) 69)) := by
    obtain ⟨dst, op, type, pos, after, guard⟩ := o
    simp only at ho
    subst ho
    simp only [execOp, hx]
    go_simp
  unfold Oper.wp
  rw [hrun]
  exact hK _ _ (h _ _ ⟨rfl, World.size_alloc _ _⟩ (sdv_new _ _) ((Below.refl _ _).alloc (Nat.le_refl _) _))
theorem wpList_nil_sdv {ops : Array Oper} {rest : List Oper} {o : Oper} {a : Act} {w : World} {Q : Exit → Act → World → Prop} (ho : o.op = .alloc 69) (hw : Region.wanted o (yielded ops a.tmps) = true)
    (h : ∀ B W, Hid (w.heap.size = B ∧ W.heap.size = B + 1) → SdvAt W B sz0 → Below w.heap.size w W → wpList Try.prog ops Q rest (a.put o.dst (.pointer (some ⟨B, 0, none⟩))) W) : wpList Try.prog ops Q (o :: rest) a w :=
  wpList_alloc_sdv ho hw (h _ _ ⟨rfl, World.size_alloc _ _⟩ (sdv_new _ _) ((Below.refl _ _).alloc (Nat.le_refl _) _))
theorem wpList_box_opv {ops : Array Oper} {rest : List Oper} {o : Oper} {a : Act} {w : World} {Q : Exit → Act → World → Prop} (x : Operand) (ho : o.op = .box 43 x) (ov : OV) (hx : a.eval x = .agg (opC ov)) (hw : Region.wanted o (yielded ops a.tmps) = true)
    (h : ∀ B W, Hid (w.heap.size = B ∧ W.heap.size = B + 1) → OpvAt W B ov → Below w.heap.size w W → wpList Try.prog ops Q rest (a.put o.dst (.pointer (some ⟨B, 0, none⟩))) W) : wpList Try.prog ops Q (o :: rest) a w := by
  refine wpList_step fun K hK => ?_
  rw [if_pos hw]
  have hrun : (execOp a.eval o).run Try.prog w = .ok (.value (.pointer (some ⟨w.heap.size, 0, none⟩))) (w.alloc (.cells (opC ov) 43)) := by
    obtain ⟨dst, op, type, pos, after, guard⟩ := o
    simp only at ho
    subst ho
    simp only [execOp, hx]
    go_simp
  unfold Oper.wp
  rw [hrun]
  exact hK _ _ (h _ _ ⟨rfl, World.size_alloc _ _⟩ (opv_new _ _) ((Below.refl _ _).alloc (Nat.le_refl _) _))
theorem wpList_nil_opv {ops : Array Oper} {rest : List Oper} {o : Oper} {a : Act} {w : World} {Q : Exit → Act → World → Prop} (ho : o.op = .alloc 43) (hw : Region.wanted o (yielded ops a.tmps) = true)
    (h : ∀ B W, Hid (w.heap.size = B ∧ W.heap.size = B + 1) → OpvAt W B oz → Below w.heap.size w W → wpList Try.prog ops Q rest (a.put o.dst (.pointer (some ⟨B, 0, none⟩))) W) : wpList Try.prog ops Q (o :: rest) a w :=
  wpList_alloc_opv ho hw (h _ _ ⟨rfl, World.size_alloc _ _⟩ (opv_new _ _) ((Below.refl _ _).alloc (Nat.le_refl _) _))
theorem yields_qp {ops : Array Oper} {o : Oper} {a : Act} {S : World → Prop} (x : Operand) (ho : o.op = .load 24 x) (p : Addr) (u : Value) (hx : a.eval x = .pointer (some p)) (hw : Region.wanted o (yielded ops a.tmps) = true) (hS : ∀ w, S w → w.cell? p = some u) : YieldsIf Try.prog ops S o u a := by
  refine .inl ⟨hw, fun w hb => ?_⟩
  have hc := hS w hb
  have hu := Try.underlying24
  obtain ⟨dst, op, type, pos, after, guard⟩ := o
  simp only at ho
  subst ho
  simp only [execOp, Sem.run_bind, Sem.run_pure]
  rw [hx]
  go_simp

theorem SdvAt.rq {w : World} {B : Nat} {s : SV} (h : SdvAt w B s) : w.rangeAt B 1 (rqA s.v).toList := h.range 1 3
theorem SdvAt.ptr {w : World} {B : Nat} {s : SV} (h : SdvAt w B s) : w.cell? ⟨B, 0, none⟩ = some (.pointer s.p) := h.cell 0
theorem side_cells (s : SV) (u : RQ) : ((rqA u).toList.foldl (fun (p : Array Value × Nat) v => (p.1.setIfInBounds p.2 v, p.2 + 1)) (sdA s, 1)).1 = sdA ⟨s.p, u⟩ := rfl
theorem wpList_store_sq {ops : Array Oper} {rest : List Oper} {o : Oper} {a : Act} {w : World} {Q : Exit → Act → World → Prop} (x y : Operand) (ho : o.op = .store 67 x y) (hd : o.dst = none) (B : Nat) (s : SV) (u : RQ) (hx : a.eval x = .pointer (some ⟨B, 1, none⟩)) (hy : a.eval y = .agg (rqA u)) (hb : SdvAt w B s)
    (hw : Region.wanted o (yielded ops a.tmps) = true) (hh : ∀ w', SdvAt w' B ⟨s.p, u⟩ → Ch (fun q => q = B) w w' → wpList Try.prog ops Q rest a w') : wpList Try.prog ops Q (o :: rest) a w := by
  refine wpList_step fun K hK => ?_
  rw [if_pos hw]
  refine wp_store_mid 67 x y ho B 1 (rqA u) hx hy (fun j hj => ⟨?_, hb.fz _⟩) Try.size_rqv (by simp [rqA, Value.oneCell']) (hK _ _ ?_)
  · rw [hb.cell]
    have : j < 3 := hj
    rcases (show j = 0 ∨ j = 1 ∨ j = 2 by omega) with rfl | rfl | rfl <;> rfl
  · rw [hd]
    refine hh _ ?_ (ch_setCells w B _ _)
    unfold SdvAt at hb ⊢
    have s : ∀ (vs : List Value) (o : Nat) (w : World) (c : Array Value), w.heap[B]? = some (.cells c 69 (0, 0)) → ∃ c', (w.setCells B o vs).heap[B]? = some (.cells c' 69 (0, 0)) ∧ c' = (vs.foldl (fun (p : Array Value × Nat) v => (p.1.setIfInBounds p.2 v, p.2 + 1)) (c, o)).1 := by
      intro vs
      induction vs with
      | nil => intro o w c h; exact ⟨c, h, rfl⟩
      | cons v vs ih =>
        intro o w c h
        exact ih (o + 1) _ _ (heap_setCell_same w B o _ _ v h)
    obtain ⟨c', h1, h2⟩ := s (rqA u).toList 1 w _ hb
    rw [h1, h2, side_cells]
theorem results_sd2 {fn : Func} {p a : Tmp} (h : fn.results = #[.cell p 69, .tmp a]) (tmps : Array Value) (w : World) (O : Nat) (x : SV) (hp : tmps.getD p undef = .pointer (some ⟨O, 0, none⟩)) (hb : SdvAt w O x) :
    (results fn tmps).run Try.prog w = .ok (.tuple #[.agg (sdA x), tmps.getD a undef]) w := by
  have hp' : tmps[p]?.getD undef = .pointer (some ⟨O, 0, none⟩) := by simpa using hp
  simp [results, h, hp', asAddr, run_loadVar_row w O _ 69 (sdA x) _ _ hb Try.underlying69 rfl Try.size_sdv]
theorem SdvAt.kp {w w' : World} {O : Nat} {o : SV} (h : SdvAt w O o) (k : Kp w w') : SdvAt w' O o := k.block O _ _ h (by decide) (by decide) (by decide)
theorem OpvAt.kp' {w w' : World} {O : Nat} {o : OV} (h : OpvAt w O o) (k : Kp w w') : OpvAt w' O o := k.block O _ _ h (by decide) (by decide) (by decide)
theorem RqvAt.kp {w w' : World} {O : Nat} {o : RQ} (h : RqvAt w O o) (k : Kp w w') : RqvAt w' O o := k.block O _ _ h (by decide) (by decide) (by decide)
theorem Kp.ch {a b c : World} {S : Nat → Prop} (h : Kp a b) (k : Ch S b c) (hS : ∀ q, S q → a.heap.size ≤ q) : Kp a c := ⟨k.os.trans h.os, k.tape.trans h.tape, k.output.trans h.output, Nat.le_trans h.size k.size, fun B cc ty hb h1 h2 h3 => by
  have h4 := h.block B cc ty hb h1 h2 h3
  exact (k.block B (Array.getElem?_eq_some_iff.1 h4).1 (fun s => by have := hS B s; have := (Array.getElem?_eq_some_iff.1 hb).1; omega)).trans h4⟩
theorem Kp.bel {a b c : World} (h : Kp a b) (k : Below b.heap.size b c) : Kp a c := h.trans (Kp.ofBelow k)
theorem LK.ks {α : Type} {K : Nat} {cells : α → List Value} {e e' : TypeId} {w w' : World} {a : Option Addr} {L : List α} {B : Nat} {cc : Array Value} (h : LK K cells e w a L) (k : Ch (fun q => q = B) w w') (hb : w.heap[B]? = some (.cells cc e' (0, 0))) (he : e ≠ e') : LK K cells e w' a L := h.keep (fun x c2 hx => (k.block x (Array.getElem?_eq_some_iff.1 hx).1 (fun hq => by subst hq; rw [hb] at hx; simp only [Option.some.injEq, Obj.cells.injEq] at hx; exact he hx.2.1.symm)).trans hx)
/-- a store in a block of another kind -/
theorem RS.ks {w w' : World} {v : RQ} {rs : List RL} {B : Nat} {cc : Array Value} {e : TypeId} (h : RS w v rs) (k : Ch (fun q => q = B) w w') (hb : w.heap[B]? = some (.cells cc e (0, 0))) (h1 : 110 ≠ e) (h2 : 124 ≠ e) : RS w' v rs := ⟨h.lk.ks k hb h1, h.n, fun r hr => ⟨(h.it r hr).1.ks k hb h2, (h.it r hr).2⟩, h.cap, h.len⟩
/-- a queue under way, whatever else is held of the world -/
structure Und (P lo : Nat) (J : List CL → TN → World → Prop) : Prop where
  ok : ∀ {cs t w}, J cs t w → QOk cs t
  low : ∀ {cs t w}, J cs t w → lo ≤ w.heap.size
  below : ∀ {cs t w w'}, J cs t w → Below w.heap.size w w' → J cs t w'
  ch : ∀ {cs t w w'} {B : Nat} {cc : Array Value} {ty : TypeId}, J cs t w → Ch (fun q => q = B) w w' → lo ≤ B → w.heap[B]? = some (.cells cc ty (0, 0)) → ty ≠ 104 → ty ≠ 98 → ty ≠ 119 → J cs t w'
  push : ∀ {cs t w}, J cs t w → ∀ i size number : Int, Calls Try.prog 16 #[.pointer (some ⟨P, 0, none⟩), .int .i64 i, .int .i64 size, .int .i64 number] w fun e w' => e = .returned (.int .i64 (pushE cs i size)) ∧ J (pushCs cs i size number) t w' ∧ Kp w w'
  pop : ∀ {cs t w}, J cs t w → Calls Try.prog 17 #[.pointer (some ⟨P, 0, none⟩)] w fun e w' => e = .returned (.tuple #[.int .i64 (popN cs t), .int .i64 (popC cs t), .bool (anyR cs)]) ∧ J (popQ cs t) (popT cs t) w' ∧ Kp w w'
  tick : ∀ {cs t w}, J cs t w → Calls Try.prog 26 #[.pointer (some ⟨P, 0, none⟩)] w fun e w' => e = .returned (.tuple #[]) ∧ J (cs.map fillC) t w' ∧ Kp w w'
  peek : ∀ {cs t w}, J cs t w → Calls Try.prog 23 #[.pointer (some ⟨P, 0, none⟩)] w fun e w' => e = .returned (.tuple #[.int .i64 (popN cs t), .int .i64 (popC cs t), .bool (anyR cs)]) ∧ J cs t w' ∧ Below w.heap.size w w'
  len : ∀ {cs t w}, J cs t w → ∀ i : Int, Calls Try.prog 24 #[.pointer (some ⟨P, 0, none⟩), .int .i64 i] w fun e w' => e = .returned (.int .i64 (lenQ cs i)) ∧ J cs t w' ∧ Below w.heap.size w w'
  bytes : ∀ {cs t w}, J cs t w → ∀ i : Int, Calls Try.prog 25 #[.pointer (some ⟨P, 0, none⟩), .int .i64 i] w fun e w' => e = .returned (.int .i64 (bytQ cs i)) ∧ J cs t w' ∧ Below w.heap.size w w'
theorem und1 (W : World) (P G : Nat) : Und P W.heap.size (fun cs t w => Q1 W P G cs t w) where
  ok h := h.ok
  low h := h.bel.size
  below h b := h.below b
  ch h k hl hb h1 h2 h3 := h.ch k (fun q hq => by subst hq; exact ⟨hl, _, _, hb, h1, h2, h3⟩)
  push h := h.push
  pop h := h.pop
  tick h := h.tick
  peek h := h.peek
  len h := h.len
  bytes h := h.bytes
theorem und2 (W : World) (P G P' G' : Nat) (cs' : List CL) (t' : TN) : Und P W.heap.size (fun cs t w => Q2 W P G cs t P' G' cs' t' w) where
  ok h := h.ok
  low h := h.bel.size
  below h b := h.below b
  ch h k hl hb h1 h2 h3 := h.ch k (fun q hq => by subst hq; exact ⟨hl, _, _, hb, h1, h2, h3⟩)
  push h := h.push
  pop h := h.pop
  tick h := h.tick
  peek h := h.peek
  len h := h.len
  bytes h := h.bytes
theorem und2' (W : World) (P G P' G' : Nat) (cs' : List CL) (t' : TN) : Und P W.heap.size (fun cs t w => Q2 W P' G' cs' t' P G cs t w) where
  ok h := h.swap.ok
  low h := h.bel.size
  below h b := h.below b
  ch h k hl hb h1 h2 h3 := h.ch k (fun q hq => by subst hq; exact ⟨hl, _, _, hb, h1, h2, h3⟩)
  push h i s n := (h.swap.push i s n).mono (fun _ _ ⟨h1, h2, h3⟩ => ⟨h1, h2.swap, h3⟩)
  pop h := h.swap.pop.mono (fun _ _ ⟨h1, h2, h3⟩ => ⟨h1, h2.swap, h3⟩)
  tick h := h.swap.tick.mono (fun _ _ ⟨h1, h2, h3⟩ => ⟨h1, h2.swap, h3⟩)
  peek h := h.swap.peek.mono (fun _ _ ⟨h1, h2, h3⟩ => ⟨h1, h2.swap, h3⟩)
  len h i := (h.swap.len i).mono (fun _ _ ⟨h1, h2, h3⟩ => ⟨h1, h2.swap, h3⟩)
  bytes h i := (h.swap.bytes i).mono (fun _ _ ⟨h1, h2, h3⟩ => ⟨h1, h2.swap, h3⟩)
/-- the document's queue beside it -/
structure AL (w : World) (v : RQ) (cs : List CL) (t : TN) (rs : List RL) : Prop where
  st : RS w v rs
  eq : csR rs = cs
  rt : RT rs v t
theorem AL.below {w w' : World} {v : RQ} {cs : List CL} {t : TN} {rs : List RL} (h : AL w v cs t rs) (b : Below w.heap.size w w') : AL w' v cs t rs := ⟨h.st.below b, h.eq, h.rt⟩
theorem AL.kp {w w' : World} {v : RQ} {cs : List CL} {t : TN} {rs : List RL} (h : AL w v cs t rs) (b : Kp w w') : AL w' v cs t rs := ⟨h.st.kp b, h.eq, h.rt⟩
theorem AL.ks {w w' : World} {v : RQ} {cs : List CL} {t : TN} {rs : List RL} {B : Nat} {cc : Array Value} {e : TypeId} (h : AL w v cs t rs) (k : Ch (fun q => q = B) w w') (hb : w.heap[B]? = some (.cells cc e (0, 0))) (h1 : 110 ≠ e) (h2 : 124 ≠ e) : AL w' v cs t rs := ⟨h.st.ks k hb h1 h2, h.eq, h.rt⟩
end Go.Proofs.Ytcdbhkihbfjedaa
