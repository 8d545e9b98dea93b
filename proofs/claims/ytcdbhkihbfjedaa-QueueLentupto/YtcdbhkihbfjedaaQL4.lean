/-
  Layer 18: four lists, sides in a list.
-/
import Derived.Test.YtcdbhkihbfjedaaQL3
namespace Go.Proofs.Ytcdbhkihbfjedaa
open Go.RowKit Go.ChangeShapes Go.WideShapes

structure A4 where
  a0 : Option Addr
  n0 : Nat
  c0 : Nat
  a1 : Option Addr
  n1 : Nat
  c1 : Nat
  a2 : Option Addr
  n2 : Nat
  c2 : Nat
  a3 : Option Addr
  n3 : Nat
  c3 : Nat
def l4A (s : A4) : Array Value := #[.slice s.a0 s.n0 s.c0, .slice s.a1 s.n1 s.c1, .slice s.a2 s.n2 s.c2, .slice s.a3 s.n3 s.c3]
def l4z : A4 := ⟨none, 0, 0, none, 0, 0, none, 0, 0, none, 0, 0⟩
theorem Try.size_l4v : (Try.prog.info? 74).map (·.size) = some 4 := by kernel_rfl
def L4vAt (w : World) (O : Nat) (fv : A4) : Prop := w.heap[O]? = some (.cells (l4A fv) 74 (0, 0))
section
variable {w : World} {O : Nat} {fv : A4} (k : L4vAt w O fv)
include k
theorem L4vAt.lt : O < w.heap.size := (Array.getElem?_eq_some_iff.1 k).1
theorem L4vAt.ch {S : Nat → Prop} {w' : World} (c : Ch S w w') (hS : ¬ S O) : L4vAt w' O fv := (c.block O k.lt hS).trans k
theorem L4vAt.below {w' : World} (c : Below w.heap.size w w') : L4vAt w' O fv := (c.block O k.lt).trans k
theorem L4vAt.cell (i : Nat) : w.cell? ⟨O, i, none⟩ = (l4A fv)[i]? := by unfold L4vAt at k; simp [World.cell?, k]
theorem L4vAt.fz (j : Nat) : w.frozen? ⟨O, j, none⟩ = false := by unfold L4vAt at k; simp [World.frozen?, k]
theorem L4vAt.range (o n : Nat) : w.rangeAt O o (((l4A fv).extract o (o + n)).toList) := World.rangeAt_of_block k o n
end
theorem l4v_new (w : World) (fv : A4) : L4vAt (w.alloc (.cells (l4A fv) 74)) w.heap.size fv := heap_alloc_new _ _
theorem wpList_load_l4v {ops : Array Oper} {rest : List Oper} {o : Oper} {a : Act} {w : World} {Q : Exit → Act → World → Prop} (x : Operand) (ho : o.op = .load 74 x) (O : Nat) (fv : A4) (hx : a.eval x = .pointer (some ⟨O, 0, none⟩)) (hb : L4vAt w O fv)
    (hw : Region.wanted o (yielded ops a.tmps) = true) (hh : wpList Try.prog ops Q rest (a.put o.dst (.agg (l4A fv))) w) : wpList Try.prog ops Q (o :: rest) a w := by
  refine wpList_step fun K hK => ?_
  rw [if_pos hw]
  exact wp_load_row 74 x ho O hx _ _ _ _ hb Try.underlying74 rfl Try.size_l4v (hK _ _ hh)
theorem wpList_store_l4v {ops : Array Oper} {rest : List Oper} {o : Oper} {a : Act} {w : World} {Q : Exit → Act → World → Prop} (x y : Operand) (ho : o.op = .store 74 x y) (hd : o.dst = none) (O : Nat) (fv : A4) (fv' : A4) (hx : a.eval x = .pointer (some ⟨O, 0, none⟩)) (hy : a.eval y = .agg (l4A fv')) (hb : L4vAt w O fv)
    (hw : Region.wanted o (yielded ops a.tmps) = true) (hh : ∀ w', L4vAt w' O fv' → Ch (fun q => q = O) w w' → wpList Try.prog ops Q rest a w') : wpList Try.prog ops Q (o :: rest) a w := by
  refine wpList_step fun K hK => ?_
  rw [if_pos hw]
  refine wp_store_row 74 x y ho O (l4A fv') hx hy _ (l4A fv) hb Try.size_l4v rfl (by simp [l4A, Value.oneCell']) (hK _ _ ?_)
  rw [hd]
  refine hh _ (setRow_heap w O _ _ _ _ hb) ⟨rfl, rfl, rfl, ?_, ?_⟩
  · simp [World.setRow]
  · intro k hk hne
    simp only [World.setRow]
    rw [Array.getElem?_modify, if_neg (fun e => hne e.symm)]
theorem wpList_alloc_l4v {ops : Array Oper} {rest : List Oper} {o : Oper} {a : Act} {w : World} {Q : Exit → Act → World → Prop} (ho : o.op = .alloc 74) (hw : Region.wanted o (yielded ops a.tmps) = true)
    (h : wpList Try.prog ops Q rest (a.put o.dst (.pointer (some ⟨w.heap.size, 0, none⟩))) (w.alloc (.cells (l4A l4z) 74))) : wpList Try.prog ops Q (o :: rest) a w := by
  refine wpList_step fun K hK => ?_
  rw [if_pos hw]
  have hrun : (execOp a.eval o).run Try.prog w = .ok (.value (.pointer (some ⟨w.heap.size, 0, none⟩))) (w.alloc (.cells (l4A l4z) 74)) := by
    obtain ⟨dst, op, type, pos, after, guard⟩ := o
    simp only at ho
    subst ho
    simp only [execOp]
    go_simp
    rfl
  unfold Oper.wp
  rw [hrun]
  exact hK _ _ h
theorem yields_l4v {ops : Array Oper} {o : Oper} {a : Act} {S : World → Prop} (x : Operand) (ho : o.op = .load 74 x) (O off : Nat) (fv : A4) (hx : a.eval x = .pointer (some ⟨O, off, none⟩)) (hw : Region.wanted o (yielded ops a.tmps) = true) (hS : ∀ w, S w → w.rangeAt O off (l4A fv).toList) : YieldsIf Try.prog ops S o (.agg (l4A fv)) a :=
  yieldsIf_load_mid hw 74 x ho O off hx (l4A fv).toList _ hS Try.underlying74 rfl Try.size_l4v
theorem wpList_mid_l4v {ops : Array Oper} {rest : List Oper} {o : Oper} {a : Act} {w : World} {Q : Exit → Act → World → Prop} (x : Operand) (ho : o.op = .load 74 x) (O off : Nat) (fv : A4) (hx : a.eval x = .pointer (some ⟨O, off, none⟩)) (hb : w.rangeAt O off (l4A fv).toList)
    (hw : Region.wanted o (yielded ops a.tmps) = true) (h : wpList Try.prog ops Q rest (a.put o.dst (.agg (l4A fv))) w) : wpList Try.prog ops Q (o :: rest) a w := by
  refine wpList_step fun K hK => ?_
  rw [if_pos hw]
  exact wp_load_mid 74 x ho O off hx (l4A fv).toList _ hb Try.underlying74 rfl Try.size_l4v (hK _ _ h)
theorem results_l4v {fn : Func} {p : Tmp} (h : fn.results = #[.cell p 74]) (tmps : Array Value) (w : World) (O : Nat) (fv : A4) (hp : tmps.getD p undef = .pointer (some ⟨O, 0, none⟩)) (hb : L4vAt w O fv) :
    (results fn tmps).run Try.prog w = .ok (.agg (l4A fv)) w :=
  results_cell_row h tmps w O _ (l4A fv) _ _ hp hb Try.underlying74 rfl Try.size_l4v
theorem wpList_box_l4v {ops : Array Oper} {rest : List Oper} {o : Oper} {a : Act} {w : World} {Q : Exit → Act → World → Prop} (x : Operand) (ho : o.op = .box 74 x) (fv : A4) (hx : a.eval x = .agg (l4A fv)) (hw : Region.wanted o (yielded ops a.tmps) = true)
    (h : ∀ B W, Hid (w.heap.size = B ∧ W.heap.size = B + 1) → L4vAt W B fv → Below w.heap.size w W → wpList Try.prog ops Q rest (a.put o.dst (.pointer (some ⟨B, 0, none⟩))) W) : wpList Try.prog ops Q (o :: rest) a w := by
  refine wpList_step fun K hK => ?_
  rw [if_pos hw]
  have hrun : (execOp a.eval o).run Try.prog w = .ok (.value (.pointer (some ⟨w.heap.size, 0, none⟩))) (w.alloc (.cells (l4A fv) 74)) := by
    obtain ⟨dst, op, type, pos, after, guard⟩ := o
    simp only at ho
    subst ho
    simp only [execOp, hx]
    go_simp
  unfold Oper.wp
  rw [hrun]
  exact hK _ _ (h _ _ ⟨rfl, World.size_alloc _ _⟩ (l4v_new _ _) ((Below.refl _ _).alloc (Nat.le_refl _) _))
theorem wpList_nil_l4v {ops : Array Oper} {rest : List Oper} {o : Oper} {a : Act} {w : World} {Q : Exit → Act → World → Prop} (ho : o.op = .alloc 74) (hw : Region.wanted o (yielded ops a.tmps) = true)
    (h : ∀ B W, Hid (w.heap.size = B ∧ W.heap.size = B + 1) → L4vAt W B l4z → Below w.heap.size w W → wpList Try.prog ops Q rest (a.put o.dst (.pointer (some ⟨B, 0, none⟩))) W) : wpList Try.prog ops Q (o :: rest) a w :=
  wpList_alloc_l4v ho hw (h _ _ ⟨rfl, World.size_alloc _ _⟩ (l4v_new _ _) ((Below.refl _ _).alloc (Nat.le_refl _) _))

theorem run_bs1s (x : SV) (w : World) : (Instr.buildSlice 78 1 #[(0, .agg (sdA x))]).run Try.prog w = .ok (.slice (some ⟨w.heap.size, 0, none⟩) 1 1) (w.alloc (.cells (sdA x) 69)) := by kernel_rfl
theorem wpList_bs1s {ops : Array Oper} {rest : List Oper} {o : Oper} {a : Act} {w : World} {Q : Exit → Act → World → Prop} (y : Operand) (ho : o.op = .buildSlice 78 1 #[(0, y)]) (x : SV) (hx : a.eval y = .agg (sdA x)) (hw : Region.wanted o (yielded ops a.tmps) = true)
    (h : ∀ B W, Hid (w.heap.size = B ∧ W.heap.size = B + 1) → W.rangeAt B 0 (sdL x) → Below w.heap.size w W → wpList Try.prog ops Q rest (a.put o.dst (.slice (some ⟨B, 0, none⟩) 1 1)) W) : wpList Try.prog ops Q (o :: rest) a w := by
  refine wpList_step fun K hK => ?_
  rw [if_pos hw]
  unfold Oper.wp execOp
  simp only [ho, Sem.run_bind, List.map_toArray, List.map_cons, List.map_nil, hx, run_bs1s x w, Result.andThen_ok]
  refine hK _ _ (h _ _ ⟨rfl, World.size_alloc _ _⟩ (fun j u hj => ?_) ((Below.refl _ _).alloc (Nat.le_refl _) _))
  rw [World.cell?_alloc_at _ _ _ _ rfl, Nat.zero_add]
  simpa [sdL] using hj
theorem Rm.list {base R g vc : Nat} {N : Int} {w : World} {ls L : List LI} (h : Rm base w R (some ⟨g, 0, none⟩) vc N L) (hm : Marks ls L) : ListG 5 liL (fun _ => True) w (some ⟨g, 0, none⟩) ls := by
  obtain ⟨va, vc', hv, hg⟩ := h.gl.listG (ok := fun _ => True) liL_len (fun _ _ => trivial)
  simp only [Value.slice.injEq] at hv
  obtain ⟨rfl, _, _⟩ := hv
  rcases hg with h0 | ⟨b, off, ha, hlt, hc⟩
  · have h1 := hm.len
    rw [h0] at h1
    exact .inl (List.eq_nil_of_length_eq_zero (Nat.le_zero.1 h1))
  · exact .inr ⟨b, off, ha, hlt, fun i o ho => hc i o ((hm.a i (List.getElem?_eq_some_iff.1 ho).1).trans ho)⟩
theorem Rm.below {base R vc : Nat} {va : Option Addr} {N : Int} {w w' : World} {L : List LI} (h : Rm base w R va vc N L) (b : Below w.heap.size w w') : Rm base w' R va vc N L := ⟨h.at'.below b, h.gl.below b, h.hR, h.big⟩
/-- what changes is of another kind -/
theorem Rm.kp {base R vc : Nat} {va : Option Addr} {N : Int} {w w' : World} {L : List LI} (h : Rm base w R va vc N L) (b : Kp w w') : Rm base w' R va vc N L := ⟨b.block _ _ _ h.at' (by decide) (by decide) (by decide), b.gl h.gl (by decide) (by decide) (by decide), h.hR, h.big⟩
theorem Rm.ks {base R vc : Nat} {va : Option Addr} {N : Int} {w w' : World} {L : List LI} {B : Nat} {cc : Array Value} {e : TypeId} (h : Rm base w R va vc N L) (k : Ch (fun q => q = B) w w') (hb : w.heap[B]? = some (.cells cc e (0, 0))) (h1 : e ≠ 36) (h2 : e ≠ 77) : Rm base w' R va vc N L := by
  refine ⟨h.at'.ch k (fun e' => ?_), h.gl.ch k (fun g hg e' => ?_), h.hR, h.big⟩
  · have h3 := h.at'
    unfold RmvAt at h3
    rw [e', hb] at h3
    simp only [Option.some.injEq, Obj.cells.injEq] at h3
    exact h2 h3.2.1
  · obtain ⟨_, _, c, h3⟩ := h.gl.kind g hg
    rw [e', hb] at h3
    simp only [Option.some.injEq, Obj.cells.injEq] at h3
    exact h1 h3.2.1
theorem L4vAt.rb {base O : Nat} {w w' : World} {s : A4} (h : L4vAt w O s) (k : Ch (RB base w) w w') : L4vAt w' O s := h.ch k (fun hs => by
  obtain ⟨_, c2, ty, h3, h4⟩ := hs
  unfold L4vAt at h
  rw [h] at h3
  simp only [Option.some.injEq, Obj.cells.injEq] at h3
  rcases h4 with h4 | h4
  · rw [h4] at h3; exact absurd h3.2.1 (by decide)
  · rw [h4] at h3; exact absurd h3.2.1 (by decide))
theorem GL.rbs {base lo : Nat} {w w' : World} {v : Value} {L : List SV} (h : GL 4 sdL 69 w lo v L) (k : Ch (RB base w) w w') : GL 4 sdL 69 w' lo v L := h.ch k (fun g hg hs => by
  obtain ⟨_, c2, ty, h3, h4⟩ := hs
  obtain ⟨_, _, c, h5⟩ := h.kind g hg
  rw [h5] at h3
  simp only [Option.some.injEq, Obj.cells.injEq] at h3
  rcases h4 with h4 | h4
  · rw [h4] at h3; exact absurd h3.2.1 (by decide)
  · rw [h4] at h3; exact absurd h3.2.1 (by decide))
theorem GL.kps {lo : Nat} {w w' : World} {v : Value} {L : List SV} (h : GL 4 sdL 69 w lo v L) (k : Kp w w') : GL 4 sdL 69 w' lo v L := k.gl h (by decide) (by decide) (by decide)
theorem GL.kss {lo : Nat} {w w' : World} {v : Value} {L : List SV} {B : Nat} {cc : Array Value} {e : TypeId} (h : GL 4 sdL 69 w lo v L) (k : Ch (fun q => q = B) w w') (hb : w.heap[B]? = some (.cells cc e (0, 0))) (h1 : e ≠ 69) : GL 4 sdL 69 w' lo v L := h.ch k (fun g hg e' => by
  obtain ⟨_, _, c, h3⟩ := h.kind g hg
  rw [e', hb] at h3
  simp only [Option.some.injEq, Obj.cells.injEq] at h3
  exact h1 h3.2.1)
theorem own_ne {lo : Nat} {w : World} {v : Value} {L : List SV} {B : Nat} {cc : Array Value} {ty : TypeId} (h : GL 4 sdL 69 w lo v L) (hb : w.heap[B]? = some (.cells cc ty (0, 0))) (ht : ty ≠ 69) : ¬ v.ownBlock = some B := fun e => by
  obtain ⟨_, _, c, h3⟩ := h.kind B e
  rw [hb] at h3
  simp only [Option.some.injEq, Obj.cells.injEq] at h3
  exact ht h3.2.1
theorem Rm.own {lo base R vc : Nat} {va : Option Addr} {N : Int} {w w' : World} {L : List LI} {v : Value} {M : List SV} (h : Rm base w R va vc N L) (hg : GL 4 sdL 69 w lo v M) (k : Ch (fun q => v.ownBlock = some q) w w') : Rm base w' R va vc N L :=
  ⟨h.at'.ch k (own_ne hg h.at' (by decide)), h.gl.ch k (fun g hgg => by obtain ⟨_, _, c, h3⟩ := h.gl.kind g hgg; exact own_ne hg h3 (by decide)), h.hR, h.big⟩
theorem QN.own {lo l2 : Nat} {w w' : World} {S : List QE} {v : Value} {M : List SV} (h : QN lo w S) (hg : GL 4 sdL 69 w l2 v M) (k : Ch (fun q => v.ownBlock = some q) w w') : QN lo w' S := by
  have key : ∀ {e : TypeId}, e ≠ 69 → ∀ (x : Nat) (cc : Array Value), w.heap[x]? = some (.cells cc e (0, 0)) → w'.heap[x]? = some (.cells cc e (0, 0)) := fun h1 x cc hx => (k.block x (Array.getElem?_eq_some_iff.1 hx).1 (own_ne hg hx h1)).trans hx
  refine ⟨fun e he => (h.q e he).ch k (fun q hq hs => ?_), fun e he => ?_, h.out, h.ap⟩
  · obtain ⟨_, _, c, h3⟩ := hg.kind q hs
    exact (h.q e he).qa.apart h3 (by decide) (by decide) (by decide) hq
  · have ha := h.al e he
    exact ⟨⟨ha.st.lk.keep (key (by decide)), ha.st.n, fun r hr => ⟨(ha.st.it r hr).1.keep (key (by decide)), (ha.st.it r hr).2⟩, ha.st.cap, ha.st.len⟩, ha.eq, ha.rt⟩
end Go.Proofs.Ytcdbhkihbfjedaa
