/-
  Layer 18: the document's own answer: its lines and queues in memory; out, put.
-/
import Derived.Test.YtcdbhkihbfjedaaQH0
namespace Go.Proofs.Ytcdbhkihbfjedaa
open Go.RowKit

/-- a list that lies in a block of its elements' kind -/
structure LK {α : Type} (K : Nat) (cells : α → List Value) (e : TypeId) (w : World) (a : Option Addr) (L : List α) : Prop where
  li : ListG K cells (fun _ => True) w a L
  kd : L ≠ [] → ∀ x, a = some x → ∃ cc, w.heap[x.block]? = some (.cells cc e (0, 0))
section
variable {α : Type} {K : Nat} {cells : α → List Value} {e : TypeId} {w w' : World} {a : Option Addr} {L : List α}
theorem LK.nil : LK K cells e w a [] := ⟨.inl rfl, fun h => absurd rfl h⟩
theorem LK.keep (h : LK K cells e w a L) (hk : ∀ (x : Nat) (cc : Array Value), w.heap[x]? = some (.cells cc e (0, 0)) → w'.heap[x]? = some (.cells cc e (0, 0))) : LK K cells e w' a L := by
  by_cases h0 : L = []
  · subst h0; exact LK.nil
  · refine ⟨?_, fun _ x hx => by obtain ⟨cc, h1⟩ := h.kd h0 x hx; exact ⟨cc, hk _ _ h1⟩⟩
    rcases h.li with h1 | ⟨b, off, ha, hlt, hc⟩
    · exact .inl h1
    · obtain ⟨cc, h2⟩ := h.kd h0 _ ha
      have h3 := hk _ _ h2
      refine .inr ⟨b, off, ha, (Array.getElem?_eq_some_iff.1 h3).1, fun i o ho => ⟨trivial, fun j hj => ?_⟩⟩
      rw [← (hc i o ho).2 j hj]
      exact World.cell?_of_block (h3.trans h2.symm)
theorem LK.below (h : LK K cells e w a L) (b : Below w.heap.size w w') : LK K cells e w' a L := h.keep (fun x _ hx => (b.block x (Array.getElem?_eq_some_iff.1 hx).1).trans hx)
theorem LK.kp (h : LK K cells e w a L) (k : Kp w w') (h1 : e ≠ 104) (h2 : e ≠ 98) (h3 : e ≠ 119) : LK K cells e w' a L := h.keep (fun x cc hx => k.block x cc e hx h1 h2 h3)
theorem GL.lk {base : Nat} {v : Value} (h : GL K cells e w base v L) (hcl : ∀ o, (cells o).length = K) : ∃ va vc, v = .slice va L.length vc ∧ LK K cells e w va L ∧ L.length ≤ vc ∧ vc ≤ maxLen := by
  obtain ⟨va, vc, rfl, hl⟩ := h.listG (ok := fun _ => True) hcl (fun _ _ => trivial)
  refine ⟨va, vc, rfl, ⟨hl, fun _ x hx => ?_⟩, h.capm⟩
  rcases h.2 with ⟨hv, _⟩ | ⟨g, cap, cur, hv, _, hg, _⟩
  · simp only [Value.slice.injEq] at hv; rw [hv.1] at hx; cases hx
  · simp only [Value.slice.injEq] at hv; rw [hv.1] at hx; cases hx; exact ⟨cur, hg⟩
theorem LK.rng (h : LK K cells e w a L) (hcl : ∀ o, (cells o).length = K) (i : Nat) (o : α) (ho : L[i]? = some o) : ∃ b off, a = some ⟨b, off, none⟩ ∧ w.rangeAt b (off + i * K) (cells o) := ListG.rng h.li hcl i o ho
end
def riA (x : Int × Int) : Array Value := #[.int .i64 x.2, .int .i64 x.1]
def riL (x : Int × Int) : List Value := (riA x).toList
theorem riL_len (x : Int × Int) : (riL x).length = 2 := rfl
theorem riL_one (x : Int × Int) : ∀ u ∈ riL x, u.oneCell' = true := by simp [riL, riA, Value.oneCell']
/-- a line: the class, its deficit, its items' slice -/
structure RL where
  c : CL
  de : Int
  la : Option Addr
  lc : Nat
def rlA (r : RL) : Array Value := #[.int .i64 r.c.li.q, .int .i64 r.c.li.it, .int .i64 r.c.li.by', .int .i64 r.c.li.ra, .int .i64 r.c.li.bu, .slice r.la r.c.L.length r.lc, .int .i64 r.de, .int .i64 r.c.tk]
def rlL (r : RL) : List Value := (rlA r).toList
theorem rlL_len (r : RL) : (rlL r).length = 8 := rfl
theorem rlL_one (r : RL) : ∀ u ∈ rlL r, u.oneCell' = true := by simp [rlL, rlA, Value.oneCell']
structure RQ where
  la : Option Addr
  n : Nat
  lc : Nat
  at' : Nat
  gv : Bool
def rqA (v : RQ) : Array Value := #[.slice v.la v.n v.lc, .int .i64 (v.at' : Int), .bool v.gv]
def rz : RL := ⟨cz, 0, none, 0⟩
def qz : RQ := ⟨none, 0, 0, 0, false⟩
theorem info_ri : Info 124 2 := info_of (by kernel_rfl)
theorem info_rl : Info 110 8 := info_of (by kernel_rfl)
theorem Try.size_rlv : (Try.prog.info? 110).map (·.size) = some 8 := by kernel_rfl
def RlvAt (w : World) (O : Nat) (rv : RL) : Prop := w.heap[O]? = some (.cells (rlA rv) 110 (0, 0))
section
variable {w : World} {O : Nat} {rv : RL} (k : RlvAt w O rv)
include k
theorem RlvAt.lt : O < w.heap.size := (Array.getElem?_eq_some_iff.1 k).1
theorem RlvAt.ch {S : Nat → Prop} {w' : World} (c : Ch S w w') (hS : ¬ S O) : RlvAt w' O rv := (c.block O k.lt hS).trans k
theorem RlvAt.below {w' : World} (c : Below w.heap.size w w') : RlvAt w' O rv := (c.block O k.lt).trans k
theorem RlvAt.cell (i : Nat) : w.cell? ⟨O, i, none⟩ = (rlA rv)[i]? := by unfold RlvAt at k; simp [World.cell?, k]
theorem RlvAt.fz (j : Nat) : w.frozen? ⟨O, j, none⟩ = false := by unfold RlvAt at k; simp [World.frozen?, k]
theorem RlvAt.range (o n : Nat) : w.rangeAt O o (((rlA rv).extract o (o + n)).toList) := World.rangeAt_of_block k o n
end
theorem rlv_new (w : World) (rv : RL) : RlvAt (w.alloc (.cells (rlA rv) 110)) w.heap.size rv := heap_alloc_new _ _
theorem wpList_load_rlv {ops : Array Oper} {rest : List Oper} {o : Oper} {a : Act} {w : World} {Q : Exit → Act → World → Prop} (x : Operand) (ho : o.op = .load 110 x) (O : Nat) (rv : RL) (hx : a.eval x = .pointer (some ⟨O, 0, none⟩)) (hb : RlvAt w O rv)
    (hw : Region.wanted o (yielded ops a.tmps) = true) (hh : wpList Try.prog ops Q rest (a.put o.dst (.agg (rlA rv))) w) : wpList Try.prog ops Q (o :: rest) a w := by
  refine wpList_step fun K hK => ?_
  rw [if_pos hw]
  exact wp_load_row 110 x ho O hx _ _ _ _ hb Try.underlying110 rfl Try.size_rlv (hK _ _ hh)
theorem wpList_store_rlv {ops : Array Oper} {rest : List Oper} {o : Oper} {a : Act} {w : World} {Q : Exit → Act → World → Prop} (x y : Operand) (ho : o.op = .store 110 x y) (hd : o.dst = none) (O : Nat) (rv : RL) (rv' : RL) (hx : a.eval x = .pointer (some ⟨O, 0, none⟩)) (hy : a.eval y = .agg (rlA rv')) (hb : RlvAt w O rv)
    (hw : Region.wanted o (yielded ops a.tmps) = true) (hh : ∀ w', RlvAt w' O rv' → Ch (fun q => q = O) w w' → wpList Try.prog ops Q rest a w') : wpList Try.prog ops Q (o :: rest) a w := by
  refine wpList_step fun K hK => ?_
  rw [if_pos hw]
  refine wp_store_row 110 x y ho O (rlA rv') hx hy _ (rlA rv) hb Try.size_rlv rfl (by simp [rlA, Value.oneCell']) (hK _ _ ?_)
  rw [hd]
  refine hh _ (setRow_heap w O _ _ _ _ hb) ⟨rfl, rfl, rfl, ?_, ?_⟩
  · simp [World.setRow]
  · intro k hk hne
    simp only [World.setRow]
    rw [Array.getElem?_modify, if_neg (fun e => hne e.symm)]
theorem wpList_alloc_rlv {ops : Array Oper} {rest : List Oper} {o : Oper} {a : Act} {w : World} {Q : Exit → Act → World → Prop} (ho : o.op = .alloc 110) (hw : Region.wanted o (yielded ops a.tmps) = true)
    (h : wpList Try.prog ops Q rest (a.put o.dst (.pointer (some ⟨w.heap.size, 0, none⟩))) (w.alloc (.cells (rlA rz) 110))) : wpList Try.prog ops Q (o :: rest) a w := by
  refine wpList_step fun K hK => ?_
  rw [if_pos hw]
  have hrun : (execOp a.eval o).run Try.prog w = .ok (.value (.pointer (some ⟨w.heap.size, 0, none⟩))) (w.alloc (.cells (rlA rz) 110)) := by
    obtain ⟨dst, op, type, pos, after, guard⟩ := o
    simp only at ho
    subst ho
    simp only [execOp]
    go_simp
    rfl
  unfold Oper.wp
  rw [hrun]
  exact hK _ _ h
theorem yields_rlv {ops : Array Oper} {o : Oper} {a : Act} {S : World → Prop} (x : Operand) (ho : o.op = .load 110 x) (O off : Nat) (rv : RL) (hx : a.eval x = .pointer (some ⟨O, off, none⟩)) (hw : Region.wanted o (yielded ops a.tmps) = true) (hS : ∀ w, S w → w.rangeAt O off (rlA rv).toList) : YieldsIf Try.prog ops S o (.agg (rlA rv)) a :=
  yieldsIf_load_mid hw 110 x ho O off hx (rlA rv).toList _ hS Try.underlying110 rfl Try.size_rlv
theorem wpList_mid_rlv {ops : Array Oper} {rest : List Oper} {o : Oper} {a : Act} {w : World} {Q : Exit → Act → World → Prop} (x : Operand) (ho : o.op = .load 110 x) (O off : Nat) (rv : RL) (hx : a.eval x = .pointer (some ⟨O, off, none⟩)) (hb : w.rangeAt O off (rlA rv).toList)
    (hw : Region.wanted o (yielded ops a.tmps) = true) (h : wpList Try.prog ops Q rest (a.put o.dst (.agg (rlA rv))) w) : wpList Try.prog ops Q (o :: rest) a w := by
  refine wpList_step fun K hK => ?_
  rw [if_pos hw]
  exact wp_load_mid 110 x ho O off hx (rlA rv).toList _ hb Try.underlying110 rfl Try.size_rlv (hK _ _ h)
theorem results_rlv {fn : Func} {p : Tmp} (h : fn.results = #[.cell p 110]) (tmps : Array Value) (w : World) (O : Nat) (rv : RL) (hp : tmps.getD p undef = .pointer (some ⟨O, 0, none⟩)) (hb : RlvAt w O rv) :
    (results fn tmps).run Try.prog w = .ok (.agg (rlA rv)) w :=
  results_cell_row h tmps w O _ (rlA rv) _ _ hp hb Try.underlying110 rfl Try.size_rlv
theorem Try.size_rqv : (Try.prog.info? 67).map (·.size) = some 3 := by kernel_rfl
def RqvAt (w : World) (O : Nat) (qv : RQ) : Prop := w.heap[O]? = some (.cells (rqA qv) 67 (0, 0))
section
variable {w : World} {O : Nat} {qv : RQ} (k : RqvAt w O qv)
include k
theorem RqvAt.lt : O < w.heap.size := (Array.getElem?_eq_some_iff.1 k).1
theorem RqvAt.ch {S : Nat → Prop} {w' : World} (c : Ch S w w') (hS : ¬ S O) : RqvAt w' O qv := (c.block O k.lt hS).trans k
theorem RqvAt.below {w' : World} (c : Below w.heap.size w w') : RqvAt w' O qv := (c.block O k.lt).trans k
theorem RqvAt.cell (i : Nat) : w.cell? ⟨O, i, none⟩ = (rqA qv)[i]? := by unfold RqvAt at k; simp [World.cell?, k]
theorem RqvAt.fz (j : Nat) : w.frozen? ⟨O, j, none⟩ = false := by unfold RqvAt at k; simp [World.frozen?, k]
theorem RqvAt.range (o n : Nat) : w.rangeAt O o (((rqA qv).extract o (o + n)).toList) := World.rangeAt_of_block k o n
end
theorem rqv_new (w : World) (qv : RQ) : RqvAt (w.alloc (.cells (rqA qv) 67)) w.heap.size qv := heap_alloc_new _ _
theorem wpList_load_rqv {ops : Array Oper} {rest : List Oper} {o : Oper} {a : Act} {w : World} {Q : Exit → Act → World → Prop} (x : Operand) (ho : o.op = .load 67 x) (O : Nat) (qv : RQ) (hx : a.eval x = .pointer (some ⟨O, 0, none⟩)) (hb : RqvAt w O qv)
    (hw : Region.wanted o (yielded ops a.tmps) = true) (hh : wpList Try.prog ops Q rest (a.put o.dst (.agg (rqA qv))) w) : wpList Try.prog ops Q (o :: rest) a w := by
  refine wpList_step fun K hK => ?_
  rw [if_pos hw]
  exact wp_load_row 67 x ho O hx _ _ _ _ hb Try.underlying67 rfl Try.size_rqv (hK _ _ hh)
theorem wpList_store_rqv {ops : Array Oper} {rest : List Oper} {o : Oper} {a : Act} {w : World} {Q : Exit → Act → World → Prop} (x y : Operand) (ho : o.op = .store 67 x y) (hd : o.dst = none) (O : Nat) (qv : RQ) (qv' : RQ) (hx : a.eval x = .pointer (some ⟨O, 0, none⟩)) (hy : a.eval y = .agg (rqA qv')) (hb : RqvAt w O qv)
    (hw : Region.wanted o (yielded ops a.tmps) = true) (hh : ∀ w', RqvAt w' O qv' → Ch (fun q => q = O) w w' → wpList Try.prog ops Q rest a w') : wpList Try.prog ops Q (o :: rest) a w := by
  refine wpList_step fun K hK => ?_
  rw [if_pos hw]
  refine wp_store_row 67 x y ho O (rqA qv') hx hy _ (rqA qv) hb Try.size_rqv rfl (by simp [rqA, Value.oneCell']) (hK _ _ ?_)
  rw [hd]
  refine hh _ (setRow_heap w O _ _ _ _ hb) ⟨rfl, rfl, rfl, ?_, ?_⟩
  · simp [World.setRow]
  · intro k hk hne
    simp only [World.setRow]
    rw [Array.getElem?_modify, if_neg (fun e => hne e.symm)]
theorem wpList_alloc_rqv {ops : Array Oper} {rest : List Oper} {o : Oper} {a : Act} {w : World} {Q : Exit → Act → World → Prop} (ho : o.op = .alloc 67) (hw : Region.wanted o (yielded ops a.tmps) = true)
    (h : wpList Try.prog ops Q rest (a.put o.dst (.pointer (some ⟨w.heap.size, 0, none⟩))) (w.alloc (.cells (rqA qz) 67))) : wpList Try.prog ops Q (o :: rest) a w := by
  refine wpList_step fun K hK => ?_
  rw [if_pos hw]
  have hrun : (execOp a.eval o).run Try.prog w = .ok (.value (.pointer (some ⟨w.heap.size, 0, none⟩))) (w.alloc (.cells (rqA qz) 67)) := by
    obtain ⟨dst, op, type, pos, after, guard⟩ := o
    simp only at ho
    subst ho
    simp only [execOp]
    go_simp
    rfl
  unfold Oper.wp
  rw [hrun]
  exact hK _ _ h
theorem yields_rqv {ops : Array Oper} {o : Oper} {a : Act} {S : World → Prop} (x : Operand) (ho : o.op = .load 67 x) (O off : Nat) (qv : RQ) (hx : a.eval x = .pointer (some ⟨O, off, none⟩)) (hw : Region.wanted o (yielded ops a.tmps) = true) (hS : ∀ w, S w → w.rangeAt O off (rqA qv).toList) : YieldsIf Try.prog ops S o (.agg (rqA qv)) a :=
  yieldsIf_load_mid hw 67 x ho O off hx (rqA qv).toList _ hS Try.underlying67 rfl Try.size_rqv
theorem wpList_mid_rqv {ops : Array Oper} {rest : List Oper} {o : Oper} {a : Act} {w : World} {Q : Exit → Act → World → Prop} (x : Operand) (ho : o.op = .load 67 x) (O off : Nat) (qv : RQ) (hx : a.eval x = .pointer (some ⟨O, off, none⟩)) (hb : w.rangeAt O off (rqA qv).toList)
    (hw : Region.wanted o (yielded ops a.tmps) = true) (h : wpList Try.prog ops Q rest (a.put o.dst (.agg (rqA qv))) w) : wpList Try.prog ops Q (o :: rest) a w := by
  refine wpList_step fun K hK => ?_
  rw [if_pos hw]
  exact wp_load_mid 67 x ho O off hx (rqA qv).toList _ hb Try.underlying67 rfl Try.size_rqv (hK _ _ h)
theorem results_rqv {fn : Func} {p : Tmp} (h : fn.results = #[.cell p 67]) (tmps : Array Value) (w : World) (O : Nat) (qv : RQ) (hp : tmps.getD p undef = .pointer (some ⟨O, 0, none⟩)) (hb : RqvAt w O qv) :
    (results fn tmps).run Try.prog w = .ok (.agg (rqA qv)) w :=
  results_cell_row h tmps w O _ (rqA qv) _ _ hp hb Try.underlying67 rfl Try.size_rqv
theorem wpList_box_rlv {ops : Array Oper} {rest : List Oper} {o : Oper} {a : Act} {w : World} {Q : Exit → Act → World → Prop} (x : Operand) (ho : o.op = .box 110 x) (rv : RL) (hx : a.eval x = .agg (rlA rv)) (hw : Region.wanted o (yielded ops a.tmps) = true)
    (h : ∀ B W, Hid (w.heap.size = B ∧ W.heap.size = B + 1) → RlvAt W B rv → Below w.heap.size w W → wpList Try.prog ops Q rest (a.put o.dst (.pointer (some ⟨B, 0, none⟩))) W) : wpList Try.prog ops Q (o :: rest) a w := by
  refine wpList_step fun K hK => ?_
  rw [if_pos hw]
  have hrun : (execOp a.eval o).run Try.prog w = .ok (.value (.pointer (some ⟨w.heap.size, 0, none⟩))) (w.alloc (.cells (rlA rv) 110)) := by
    obtain ⟨dst, op, type, pos, after, guard⟩ := o
    simp only at ho
    subst ho
    simp only [execOp, hx]
    go_simp
  unfold Oper.wp
  rw [hrun]
  exact hK _ _ (h _ _ ⟨rfl, World.size_alloc _ _⟩ (rlv_new _ _) ((Below.refl _ _).alloc (Nat.le_refl _) _))
theorem wpList_nil_rlv {ops : Array Oper} {rest : List Oper} {o : Oper} {a : Act} {w : World} {Q : Exit → Act → World → Prop} (ho : o.op = .alloc 110) (hw : Region.wanted o (yielded ops a.tmps) = true)
    (h : ∀ B W, Hid (w.heap.size = B ∧ W.heap.size = B + 1) → RlvAt W B rz → Below w.heap.size w W → wpList Try.prog ops Q rest (a.put o.dst (.pointer (some ⟨B, 0, none⟩))) W) : wpList Try.prog ops Q (o :: rest) a w :=
  wpList_alloc_rlv ho hw (h _ _ ⟨rfl, World.size_alloc _ _⟩ (rlv_new _ _) ((Below.refl _ _).alloc (Nat.le_refl _) _))
theorem wpList_box_rqv {ops : Array Oper} {rest : List Oper} {o : Oper} {a : Act} {w : World} {Q : Exit → Act → World → Prop} (x : Operand) (ho : o.op = .box 67 x) (qv : RQ) (hx : a.eval x = .agg (rqA qv)) (hw : Region.wanted o (yielded ops a.tmps) = true)
    (h : ∀ B W, Hid (w.heap.size = B ∧ W.heap.size = B + 1) → RqvAt W B qv → Below w.heap.size w W → wpList Try.prog ops Q rest (a.put o.dst (.pointer (some ⟨B, 0, none⟩))) W) : wpList Try.prog ops Q (o :: rest) a w := by
  refine wpList_step fun K hK => ?_
  rw [if_pos hw]
  have hrun : (execOp a.eval o).run Try.prog w = .ok (.value (.pointer (some ⟨w.heap.size, 0, none⟩))) (w.alloc (.cells (rqA qv) 67)) := by
    obtain ⟨dst, op, type, pos, after, guard⟩ := o
    simp only at ho
    subst ho
    simp only [execOp, hx]
    go_simp
  unfold Oper.wp
  rw [hrun]
  exact hK _ _ (h _ _ ⟨rfl, World.size_alloc _ _⟩ (rqv_new _ _) ((Below.refl _ _).alloc (Nat.le_refl _) _))
theorem wpList_nil_rqv {ops : Array Oper} {rest : List Oper} {o : Oper} {a : Act} {w : World} {Q : Exit → Act → World → Prop} (ho : o.op = .alloc 67) (hw : Region.wanted o (yielded ops a.tmps) = true)
    (h : ∀ B W, Hid (w.heap.size = B ∧ W.heap.size = B + 1) → RqvAt W B qz → Below w.heap.size w W → wpList Try.prog ops Q rest (a.put o.dst (.pointer (some ⟨B, 0, none⟩))) W) : wpList Try.prog ops Q (o :: rest) a w :=
  wpList_alloc_rqv ho hw (h _ _ ⟨rfl, World.size_alloc _ _⟩ (rqv_new _ _) ((Below.refl _ _).alloc (Nat.le_refl _) _))
theorem yields_rls {ops : Array Oper} {o : Oper} {a : Act} {S : World → Prop} (x : Operand) (ho : o.op = .load 65 x) (p : Addr) (u : Value) (hx : a.eval x = .pointer (some p)) (hw : Region.wanted o (yielded ops a.tmps) = true) (hS : ∀ w, S w → w.cell? p = some u) : YieldsIf Try.prog ops S o u a := by
  refine .inl ⟨hw, fun w hb => ?_⟩
  have hc := hS w hb
  have hu := Try.underlying65
  obtain ⟨dst, op, type, pos, after, guard⟩ := o
  simp only at ho
  subst ho
  simp only [execOp, Sem.run_bind, Sem.run_pure]
  rw [hx]
  go_simp
theorem yields_ris {ops : Array Oper} {o : Oper} {a : Act} {S : World → Prop} (x : Operand) (ho : o.op = .load 108 x) (p : Addr) (u : Value) (hx : a.eval x = .pointer (some p)) (hw : Region.wanted o (yielded ops a.tmps) = true) (hS : ∀ w, S w → w.cell? p = some u) : YieldsIf Try.prog ops S o u a := by
  refine .inl ⟨hw, fun w hb => ?_⟩
  have hc := hS w hb
  have hu := Try.underlying108
  obtain ⟨dst, op, type, pos, after, guard⟩ := o
  simp only at ho
  subst ho
  simp only [execOp, Sem.run_bind, Sem.run_pure]
  rw [hx]
  go_simp

def RIt (w : World) (r : RL) : Prop := LK 2 riL 124 w r.la r.c.L ∧ r.c.L.length ≤ r.lc ∧ r.lc ≤ maxLen
structure RS (w : World) (v : RQ) (rs : List RL) : Prop where
  lk : LK 8 rlL 110 w v.la rs
  n : v.n = rs.length
  it : ∀ r ∈ rs, RIt w r
  cap : v.n ≤ v.lc ∧ v.lc ≤ maxLen
  len : 1 ≤ rs.length ∧ rs.length ≤ 8
theorem RIt.below {w w' : World} {r : RL} (h : RIt w r) (b : Below w.heap.size w w') : RIt w' r := ⟨h.1.below b, h.2⟩
theorem RIt.kp {w w' : World} {r : RL} (h : RIt w r) (b : Kp w w') : RIt w' r := ⟨h.1.kp b (by decide) (by decide) (by decide), h.2⟩
theorem RS.below {w w' : World} {v : RQ} {rs : List RL} (h : RS w v rs) (b : Below w.heap.size w w') : RS w' v rs := ⟨h.lk.below b, h.n, fun r hr => (h.it r hr).below b, h.cap, h.len⟩
theorem RS.kp {w w' : World} {v : RQ} {rs : List RL} (h : RS w v rs) (b : Kp w w') : RS w' v rs := ⟨h.lk.kp b (by decide) (by decide) (by decide), h.n, fun r hr => (h.it r hr).kp b, h.cap, h.len⟩
theorem RS.turn {w : World} {v v' : RQ} {rs : List RL} (h : RS w v rs) (h1 : v'.la = v.la) (h2 : v'.n = v.n) (h3 : v'.lc = v.lc) : RS w v' rs := ⟨by rw [h1]; exact h.lk, by rw [h2]; exact h.n, h.it, by rw [h2, h3]; exact h.cap, h.len⟩
theorem RqvAt.set {w : World} {B : Nat} {v v' : RQ} (h : RqvAt w B v) (i : Nat) (u : Value) (he : (rqA v).setIfInBounds i u = rqA v') : RqvAt (w.setCell ⟨B, i, none⟩ u) B v' := by
  unfold RqvAt at h ⊢
  rw [heap_setCell_same w B i _ _ _ h, he]
theorem RlvAt.set {w : World} {B : Nat} {v v' : RL} (h : RlvAt w B v) (i : Nat) (u : Value) (he : (rlA v).setIfInBounds i u = rlA v') : RlvAt (w.setCell ⟨B, i, none⟩ u) B v' := by
  unfold RlvAt at h ⊢
  rw [heap_setCell_same w B i _ _ _ h, he]
def outB (n lo hi : Int) : Bool := decide (n < lo) || decide (hi < n)
theorem outB_in (n lo hi : Int) : outB n lo hi = !inB n lo hi := by
  unfold outB inB
  by_cases h1 : n < lo
  · rw [decide_eq_true h1, decide_eq_false (show ¬ lo ≤ n by omega)]; rfl
  · rw [decide_eq_false h1, decide_eq_true (show lo ≤ n by omega)]
    by_cases h2 : hi < n
    · rw [decide_eq_true h2, decide_eq_false (show ¬ n ≤ hi by omega)]; rfl
    · rw [decide_eq_false h2, decide_eq_true (show n ≤ hi by omega)]; rfl
set_option maxHeartbeats 1600000 in
set_option maxRecDepth 100000 in
theorem out_any (n lo hi : Int) (w : World) : Calls Try.prog 51 #[.int .i64 n, .int .i64 lo, .int .i64 hi] w fun e w' => e = .returned (.bool (!inB n lo hi)) ∧ w = w' := by
  rw [← outB_in]
  unfold outB
  by_cases h1 : n < lo
  · have q1 : decide (n < lo) = true := decide_eq_true h1
    rw [q1]
    clear h1
    go_enter Try.func51, Try.ntmps51
    go_wp2
    go_ret
    exact ⟨rfl, rfl⟩

  · have q1 : decide (n < lo) = false := decide_eq_false h1
    rw [q1]
    clear h1
    go_enter Try.func51, Try.ntmps51
    go_wp2
    go_ret
    exact ⟨rfl, rfl⟩
set_option maxHeartbeats 1600000 in
set_option maxRecDepth 100000 in
theorem put_any (v : RQ) (rs : List RL) (i : Nat) (r : RL) (w : World) (h : RS w v rs) (hi : i < rs.length) (hr : RIt w r) : Calls Try.prog 67 #[.agg (rqA v), .int .i64 (i : Int), .agg (rlA r)] w fun e w' => ∃ la lc, e = .returned (.agg (rqA ⟨la, v.n, lc, v.at', v.gv⟩)) ∧ RS w' ⟨la, v.n, lc, v.at', v.gv⟩ (rs.set i r) ∧ Below w.heap.size w w' := by
  have HH : Hid (RS w v rs ∧ i < rs.length ∧ RIt w r) := ⟨h, hi, hr⟩
  obtain ⟨n, hn⟩ : ∃ n, n = v.n := ⟨_, rfl⟩
  have hin : i < n := by rw [hn, h.n]; exact hi
  have HN : Hid (v.n = n ∧ n = rs.length ∧ i < n) := ⟨hn.symm, by rw [hn]; exact h.n, hin⟩
  have hn8 : n ≤ 8 := by have := h.len; have := h.n; omega
  have k0 : (0 : Int) ≤ (i : Int) := by omega
  have k1 : (i : Int) < (n : Int) := by omega
  have k2 : ((i : Int)).toNat = i := by omega
  clear h hi hr hn
  go_enter Try.func67, Try.ntmps67
  go_upto_region 1 with (first | (refine wpList_box_rqv (.tmp 0) rfl v rfl rfl ?_; intro B1 W1 hB1 hA1 b1) | (refine wpList_box_rlv (.tmp 2) rfl r rfl rfl ?_; intro B2 W2 hB2 hA2 b2) | (refine wpList_nil_rqv rfl rfl ?_; intro B3 W3 hB3 hA3 b3))
  have H3 : Hid (RqvAt W3 B1 v ∧ RlvAt W3 B2 r ∧ RqvAt W3 B3 qz ∧ Below w.heap.size w W3 ∧ w.heap.size = B1 ∧ B1 < B2 ∧ B2 < B3 ∧ B3 < W3.heap.size) := ⟨(hA1.below b2).below b3, hA2.below b3, hA3, bthen (bthen b1 b2) b3, hB1.out.1, by have g1 := hB1.out; have g2 := hB2.out; omega, by have g1 := hB2.out; have g2 := hB3.out; omega, by have g2 := hB3.out; omega⟩
  clear hB1 hA1 b1 hB2 hA2 b2 hB3 hA3 b3
  have HR3 : Hid (RS W3 v rs ∧ RIt W3 r) := ⟨HH.out.1.below H3.out.2.2.2.1, HH.out.2.2.below H3.out.2.2.2.1⟩
  have c0 : W3.cell? ⟨B1, 0, none⟩ = some (.slice v.la n v.lc) := (H3.out.1.cell 0).trans (by rw [← HN.out.1]; rfl)
  go_upto_region 3 with (first | (refine wpList_appG rlL_len rlL_one (by decide) rfl (.tmp 8) (.tmp 10) 65 110 rfl Try.underlying65 info_rl W3.heap.size (.slice none 0 0) [] rfl GL.nil (fun _ => True) v.la n v.lc rs rfl HN.out.2.1.symm HR3.out.1.lk.li (by simp) (by have := HN.out; omega) (Nat.le_refl _) ?_; intro v4 w4 gl4 g4 _))
  rw [List.nil_append] at gl4
  have hv4 : ∃ g c, v4 = .slice (some ⟨g, 0, none⟩) n c := by
    obtain ⟨x, hx⟩ : ∃ x, rs[i]? = some x := ⟨_, List.getElem?_eq_getElem HH.out.2.1⟩
    obtain ⟨g, c, hv, _⟩ := gl4.at rlL_len i x hx
    exact ⟨g, c, by rw [hv, HN.out.2.1]⟩
  obtain ⟨g, c, rfl⟩ := hv4
  have H4 : Hid (GL 8 rlL 110 w4 W3.heap.size (.slice (some ⟨g, 0, none⟩) n c) rs ∧ Below W3.heap.size W3 w4 ∧ W3.heap.size ≤ g) := ⟨gl4, ⟨g4.os, g4.tape, g4.output, g4.size, fun k hk => g4.block k hk (by simp [Value.ownBlock])⟩, (gl4.kind g rfl).1⟩
  have HB4 : Hid (RqvAt w4 B1 v ∧ RlvAt w4 B2 r ∧ RqvAt w4 B3 qz) := ⟨H3.out.1.below H4.out.2.1, H3.out.2.1.below H4.out.2.1, H3.out.2.2.1.below H4.out.2.1⟩
  clear gl4 g4 c0
  go_upto_region 4 with (first | (refine wpList_load_rlv (.tmp 5) rfl B2 r rfl HB4.out.2.1 rfl ?_) | (refine wpList_setG rlL_len rlL_one 110 info_rl (.tmp 15) (.tmp 14) rfl rfl W3.heap.size g n c rs i (i * 8) r rfl rfl rfl H4.out.1 HN.out.2.2 rfl ?_; intro w5 gl5 k5))
  have H5 : Hid (GL 8 rlL 110 w5 W3.heap.size (.slice (some ⟨g, 0, none⟩) n c) (rs.set i r) ∧ RqvAt w5 B1 v ∧ RqvAt w5 B3 qz ∧ Below W3.heap.size W3 w5) := by
    have hh := H3.out
    have hg := H4.out.2.2
    exact ⟨gl5, HB4.out.1.ch k5 (by omega), HB4.out.2.2.ch k5 (by omega), H4.out.2.1.trans (k5.below (fun q hq => by omega) H4.out.2.1.size)⟩
  clear gl5 k5 H4 HB4
  have c0 : w5.cell? ⟨B1, 0, none⟩ = some (.slice v.la v.n v.lc) := H5.out.2.1.cell 0
  have z0 := H5.out.2.1.fz 0
  obtain ⟨w6, hw6⟩ : ∃ w6, w6 = w5.setCell ⟨B1, 0, none⟩ (.slice (some ⟨g, 0, none⟩) n c) := ⟨_, rfl⟩
  have HW6 : Hid (w5.setCell ⟨B1, 0, none⟩ (.slice (some ⟨g, 0, none⟩) n c) = w6) := hw6.symm
  have H6 : Hid (GL 8 rlL 110 w6 W3.heap.size (.slice (some ⟨g, 0, none⟩) n c) (rs.set i r) ∧ RqvAt w6 B1 ⟨some ⟨g, 0, none⟩, n, c, v.at', v.gv⟩ ∧ RqvAt w6 B3 qz ∧ Below w.heap.size w w6) := by
    have k6 : Ch (fun q => q = B1) w5 w6 := by rw [hw6]; exact (Ch.refl (fun q => q = B1) w5).set ⟨B1, 0, none⟩ _ rfl
    have hh := H3.out
    have hk := H5.out.1.kind g rfl
    refine ⟨H5.out.1.ch k6 (fun q hq e => by have := (H5.out.1.kind q hq).1; omega), by rw [hw6]; exact H5.out.2.1.set 0 _ rfl, H5.out.2.2.1.ch k6 (by omega), ?_⟩
    have b5 : Below w.heap.size w w5 := H3.out.2.2.2.1.trans (H5.out.2.2.2.mono H3.out.2.2.2.1.size)
    exact b5.trans (k6.below (fun q hq => by omega) b5.size)
  clear hw6
  go_upto_region 5 with fail
  rw [HW6.out]
  clear c0 z0
  go_wp2_with (first | (refine wpList_load_rqv (.tmp 3) rfl B1 ⟨some ⟨g, 0, none⟩, n, c, v.at', v.gv⟩ rfl H6.out.2.1 rfl ?_) | (refine wpList_store_rqv (.tmp 6) (.tmp 18) rfl rfl B3 qz ⟨some ⟨g, 0, none⟩, n, c, v.at', v.gv⟩ rfl rfl H6.out.2.2.1 rfl ?_))
  intro w7 h7 k7
  have H7 : Hid (RqvAt w7 B3 ⟨some ⟨g, 0, none⟩, n, c, v.at', v.gv⟩ ∧ RS w7 ⟨some ⟨g, 0, none⟩, n, c, v.at', v.gv⟩ (rs.set i r) ∧ Below w.heap.size w w7) := by
    have hh := H3.out
    have b7 : Below w.heap.size w w7 := H6.out.2.2.2.trans (k7.below (fun q hq => by omega) H6.out.2.2.2.size)
    have g7 := H6.out.1.ch k7 (fun q hq e => by have := (H6.out.1.kind q hq).1; omega)
    obtain ⟨va, vc, hv, hlk, hc1, hc2⟩ := g7.lk rlL_len
    simp only [Value.slice.injEq] at hv
    obtain ⟨rfl, hv2, rfl⟩ := hv
    refine ⟨h7, ⟨hlk, hv2, fun y hy => ?_, ⟨by show n ≤ c; rw [hv2]; exact hc1, hc2⟩, by rw [List.length_set]; exact HH.out.1.len⟩, b7⟩
    rcases List.mem_or_eq_of_mem_set hy with h1 | rfl
    · exact (HH.out.1.it y h1).below b7
    · exact HH.out.2.2.below b7
  clear h7 k7 H6
  go_wp2_with fail
  refine bodyPost_ret (results_rqv rfl _ _ B3 _ rfl H7.out.1) rfl ?_
  exact ⟨some ⟨g, 0, none⟩, c, by rw [HN.out.1], by rw [HN.out.1]; exact H7.out.2.1, H7.out.2.2⟩
end Go.Proofs.Ytcdbhkihbfjedaa
