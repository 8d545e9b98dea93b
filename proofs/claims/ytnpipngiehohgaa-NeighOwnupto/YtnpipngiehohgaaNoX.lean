/-
  Layer 15 (NeighOwn): elements that are but a mark, and new rows of them.
-/
/-
  Layer 15 (NeighOwn): a keep under way: the three lists and what was appended to each, the book beside them.
-/
/-
  Layer 15 (NeighOwn): the appends of a keep under way, in one form.
-/
/-
  Layer 15 (NeighOwn): a header of the book is lengthened by lists that bear its mark.
-/
/-
  Layer 15 (NeighOwn): the three headers of a keep, one after the other: what is held while they are lengthened.
-/
import Derived.Test.YtnpipngiehohgaaNoB
import Derived.Test.YtnpipngiehohgaaNgGet
namespace Go.Proofs.Ytnpipngiehohgaa
open Go.RowKit Go.Maps
namespace No

def mkB (m : Int) : NB := { nz with k := { kz with pt := m } }
def mkK (m : Int) : AK := ⟨{ kz with pt := m }, mz, 0⟩
theorem run_nb1 (m : Int) (w : World) : (Instr.build 48 #[(0, .int .i64 m)]).run Try.prog w = .ok (.agg (nbC (mkB m))) w := by kernel_rfl
theorem wpList_nb1 {ops : Array Oper} {rest : List Oper} {o : Oper} {a_ : Act} {w : World} {Q : Exit → Act → World → Prop} (y0 : Operand) (ho : o.op = .build 48 #[(0, y0)]) (m : Int) (h0 : a_.eval y0 = .int .i64 m) (hw : Region.wanted o (yielded ops a_.tmps) = true)
    (h : wpList Try.prog ops Q rest (a_.put o.dst (.agg (nbC (mkB m)))) w) : wpList Try.prog ops Q (o :: rest) a_ w := by
  refine wpList_step fun K hK => ?_
  rw [if_pos hw]
  have hrun : (execOp a_.eval o).run Try.prog w = .ok (.value (.agg (nbC (mkB m)))) w := by
    obtain ⟨dst, op, type, pos, after, guard⟩ := o
    simp only at ho
    subst ho
    simp only [execOp, Sem.run_bind, List.map_toArray, List.map_cons, List.map_nil, h0, run_nb1 m w, Result.andThen_ok]
    rfl
  unfold Oper.wp
  rw [hrun]
  exact hK _ _ h
theorem run_ak1 (m : Int) (w : World) : (Instr.build 114 #[(0, .int .i64 m)]).run Try.prog w = .ok (.agg (akC (mkK m))) w := by kernel_rfl
theorem wpList_ak1 {ops : Array Oper} {rest : List Oper} {o : Oper} {a_ : Act} {w : World} {Q : Exit → Act → World → Prop} (y0 : Operand) (ho : o.op = .build 114 #[(0, y0)]) (m : Int) (h0 : a_.eval y0 = .int .i64 m) (hw : Region.wanted o (yielded ops a_.tmps) = true)
    (h : wpList Try.prog ops Q rest (a_.put o.dst (.agg (akC (mkK m)))) w) : wpList Try.prog ops Q (o :: rest) a_ w := by
  refine wpList_step fun K hK => ?_
  rw [if_pos hw]
  have hrun : (execOp a_.eval o).run Try.prog w = .ok (.value (.agg (akC (mkK m)))) w := by
    obtain ⟨dst, op, type, pos, after, guard⟩ := o
    simp only at ho
    subst ho
    simp only [execOp, Sem.run_bind, List.map_toArray, List.map_cons, List.map_nil, h0, run_ak1 m w, Result.andThen_ok]
    rfl
  unfold Oper.wp
  rw [hrun]
  exact hK _ _ h
theorem run_bsb1 (m : Int) (w : World) : (Instr.buildSlice 45 1 #[(0, .agg (nbC (mkB m)))]).run Try.prog w = .ok (.slice (some ⟨w.heap.size, 0, none⟩) 1 1) (w.alloc (.cells (nbC (mkB m)) 48)) := by kernel_rfl
theorem bsr_b1 (m : Int) : ((nbC (mkB m))).toList = Fg.rep 1 (nbC (mkB m)).toList := by simp [Fg.rep]
theorem wpList_bsb1 {ops : Array Oper} {rest : List Oper} {o : Oper} {a : Act} {w : World} {Q : Exit → Act → World → Prop} (x0 : Operand) (ho : o.op = .buildSlice 45 1 #[(0, x0)]) (m : Int) (h0 : a.eval x0 = .agg (nbC (mkB m))) (hw : Region.wanted o (yielded ops a.tmps) = true)
    (h : ∀ X W, w.heap.size = X → Below w.heap.size w W → (∀ j u, (Fg.rep 1 (nbC (mkB m)).toList)[j]? = some u → W.cell? ⟨X, j, none⟩ = some u) → wpList Try.prog ops Q rest (a.put o.dst (.slice (some ⟨X, 0, none⟩) 1 1)) W) : wpList Try.prog ops Q (o :: rest) a w := by
  refine wpList_step fun K hK => ?_
  rw [if_pos hw]
  unfold Oper.wp execOp
  simp only [ho, Sem.run_bind, List.map_toArray, List.map_cons, List.map_nil, h0, run_bsb1 m w, Result.andThen_ok]
  refine hK _ _ (h _ _ rfl ((Below.refl _ _).alloc (Nat.le_refl _) _) (fun j u hu => ?_))
  rw [World.cell?_alloc_at _ _ _ _ rfl, ← Array.getElem?_toList, bsr_b1]
  exact hu
theorem run_bsb2 (m : Int) (w : World) : (Instr.buildSlice 45 2 #[(0, .agg (nbC (mkB m))), (1, .agg (nbC (mkB m)))]).run Try.prog w = .ok (.slice (some ⟨w.heap.size, 0, none⟩) 2 2) (w.alloc (.cells ((nbC (mkB m)).toList ++ (nbC (mkB m)).toList).toArray 48)) := by kernel_rfl
theorem bsr_b2 (m : Int) : (((nbC (mkB m)).toList ++ (nbC (mkB m)).toList).toArray).toList = Fg.rep 2 (nbC (mkB m)).toList := by simp [Fg.rep, List.replicate_succ]
theorem wpList_bsb2 {ops : Array Oper} {rest : List Oper} {o : Oper} {a : Act} {w : World} {Q : Exit → Act → World → Prop} (x0 x1 : Operand) (ho : o.op = .buildSlice 45 2 #[(0, x0), (1, x1)]) (m : Int) (h0 : a.eval x0 = .agg (nbC (mkB m))) (h1 : a.eval x1 = .agg (nbC (mkB m))) (hw : Region.wanted o (yielded ops a.tmps) = true)
    (h : ∀ X W, w.heap.size = X → Below w.heap.size w W → (∀ j u, (Fg.rep 2 (nbC (mkB m)).toList)[j]? = some u → W.cell? ⟨X, j, none⟩ = some u) → wpList Try.prog ops Q rest (a.put o.dst (.slice (some ⟨X, 0, none⟩) 2 2)) W) : wpList Try.prog ops Q (o :: rest) a w := by
  refine wpList_step fun K hK => ?_
  rw [if_pos hw]
  unfold Oper.wp execOp
  simp only [ho, Sem.run_bind, List.map_toArray, List.map_cons, List.map_nil, h0, h1, run_bsb2 m w, Result.andThen_ok]
  refine hK _ _ (h _ _ rfl ((Below.refl _ _).alloc (Nat.le_refl _) _) (fun j u hu => ?_))
  rw [World.cell?_alloc_at _ _ _ _ rfl, ← Array.getElem?_toList, bsr_b2]
  exact hu
theorem run_bsk1 (m : Int) (w : World) : (Instr.buildSlice 42 1 #[(0, .agg (akC (mkK m)))]).run Try.prog w = .ok (.slice (some ⟨w.heap.size, 0, none⟩) 1 1) (w.alloc (.cells (akC (mkK m)) 114)) := by kernel_rfl
theorem bsr_k1 (m : Int) : ((akC (mkK m))).toList = Fg.rep 1 (akC (mkK m)).toList := by simp [Fg.rep]
theorem wpList_bsk1 {ops : Array Oper} {rest : List Oper} {o : Oper} {a : Act} {w : World} {Q : Exit → Act → World → Prop} (x0 : Operand) (ho : o.op = .buildSlice 42 1 #[(0, x0)]) (m : Int) (h0 : a.eval x0 = .agg (akC (mkK m))) (hw : Region.wanted o (yielded ops a.tmps) = true)
    (h : ∀ X W, w.heap.size = X → Below w.heap.size w W → (∀ j u, (Fg.rep 1 (akC (mkK m)).toList)[j]? = some u → W.cell? ⟨X, j, none⟩ = some u) → wpList Try.prog ops Q rest (a.put o.dst (.slice (some ⟨X, 0, none⟩) 1 1)) W) : wpList Try.prog ops Q (o :: rest) a w := by
  refine wpList_step fun K hK => ?_
  rw [if_pos hw]
  unfold Oper.wp execOp
  simp only [ho, Sem.run_bind, List.map_toArray, List.map_cons, List.map_nil, h0, run_bsk1 m w, Result.andThen_ok]
  refine hK _ _ (h _ _ rfl ((Below.refl _ _).alloc (Nat.le_refl _) _) (fun j u hu => ?_))
  rw [World.cell?_alloc_at _ _ _ _ rfl, ← Array.getElem?_toList, bsr_k1]
  exact hu
theorem run_bsk2 (m : Int) (w : World) : (Instr.buildSlice 42 2 #[(0, .agg (akC (mkK m))), (1, .agg (akC (mkK m)))]).run Try.prog w = .ok (.slice (some ⟨w.heap.size, 0, none⟩) 2 2) (w.alloc (.cells ((akC (mkK m)).toList ++ (akC (mkK m)).toList).toArray 114)) := by kernel_rfl
theorem bsr_k2 (m : Int) : (((akC (mkK m)).toList ++ (akC (mkK m)).toList).toArray).toList = Fg.rep 2 (akC (mkK m)).toList := by simp [Fg.rep, List.replicate_succ]
theorem wpList_bsk2 {ops : Array Oper} {rest : List Oper} {o : Oper} {a : Act} {w : World} {Q : Exit → Act → World → Prop} (x0 x1 : Operand) (ho : o.op = .buildSlice 42 2 #[(0, x0), (1, x1)]) (m : Int) (h0 : a.eval x0 = .agg (akC (mkK m))) (h1 : a.eval x1 = .agg (akC (mkK m))) (hw : Region.wanted o (yielded ops a.tmps) = true)
    (h : ∀ X W, w.heap.size = X → Below w.heap.size w W → (∀ j u, (Fg.rep 2 (akC (mkK m)).toList)[j]? = some u → W.cell? ⟨X, j, none⟩ = some u) → wpList Try.prog ops Q rest (a.put o.dst (.slice (some ⟨X, 0, none⟩) 2 2)) W) : wpList Try.prog ops Q (o :: rest) a w := by
  refine wpList_step fun K hK => ?_
  rw [if_pos hw]
  unfold Oper.wp execOp
  simp only [ho, Sem.run_bind, List.map_toArray, List.map_cons, List.map_nil, h0, h1, run_bsk2 m w, Result.andThen_ok]
  refine hK _ _ (h _ _ rfl ((Below.refl _ _).alloc (Nat.le_refl _) _) (fun j u hu => ?_))
  rw [World.cell?_alloc_at _ _ _ _ rfl, ← Array.getElem?_toList, bsr_k2]
  exact hu
end No
end Go.Proofs.Ytnpipngiehohgaa
namespace Go.Proofs.Ytnpipngiehohgaa
open Go.RowKit Go.Maps
namespace No

structure KpS (w0 W : World) (BK : Nat) (b : BV) (m : Int) (lI lN lA : Value) (nI nN nA TI TN TA : Nat) (xI xN xA : List Value) (FI FN FA : List (Value × Nat)) : Prop where
  I : Fg.Fy W 0 3 xI [.int .i64 m] lI nI TI FI
  N : Fg.Fy W 0 48 xN (nbC (mkB m)).toList lN nN TN FN
  A : Fg.Fy W 0 114 xA (akC (mkK m)).toList lA nA TA FA
  bk : BkM W BK b
  ch : Ch (fun q => lI.ownBlock = some q ∨ lN.ownBlock = some q ∨ lA.ownBlock = some q) w0 W
  fI : ∀ r ∈ FI, ∀ q, r.1.ownBlock = some q → lI.ownBlock = some q ∨ w0.heap.size ≤ q
  fN : ∀ r ∈ FN, ∀ q, r.1.ownBlock = some q → lN.ownBlock = some q ∨ w0.heap.size ≤ q
  fA : ∀ r ∈ FA, ∀ q, r.1.ownBlock = some q → lA.ownBlock = some q ∨ w0.heap.size ≤ q
  nb : ∀ q, (lI.ownBlock = some q ∨ lN.ownBlock = some q ∨ lA.ownBlock = some q) → ¬ BB BK b q
theorem KpS.below {w0 W : World} {BK : Nat} {b : BV} {m : Int} {lI lN lA : Value} {nI nN nA TI TN TA : Nat} {xI xN xA : List Value} {FI FN FA : List (Value × Nat)} (h : KpS w0 W BK b m lI lN lA nI nN nA TI TN TA xI xN xA FI FN FA) {W' : World} (k : Below W.heap.size W W') : KpS w0 W' BK b m lI lN lA nI nN nA TI TN TA xI xN xA FI FN FA :=
  ⟨h.I.below k, h.N.below k, h.A.below k, h.bk.below k, h.ch.trans (Ch.ofBelow (S := fun _ => False) k) (fun _ _ q => q.elim), h.fI, h.fN, h.fA, h.nb⟩
theorem KpS.appI {w0 W : World} {BK : Nat} {b : BV} {m : Int} {lI lN lA : Value} {nI nN nA TI TN TA : Nat} {xI xN xA : List Value} {FI FN FA : List (Value × Nat)} (h : KpS w0 W BK b m lI lN lA nI nN nA TI TN TA xI xN xA FI FN FA) {W' : World} {j : Nat} {v : Value} (f1 : Fg.Fy W' 0 3 xI [.int .i64 m] lI nI j (FI ++ [(v, j)])) (f2 : Ch (fun q => lI.ownBlock = some q) W W') (f3 : ∀ q, v.ownBlock = some q → lI.ownBlock = some q ∨ W.heap.size ≤ q) : KpS w0 W' BK b m lI lN lA nI nN nA j TN TA xI xN xA (FI ++ [(v, j)]) FN FA := by
  refine ⟨f1, h.N.ch f2 (fun q hq e => apartT h.N.own h.I.own (by decide) q hq e) (fun r hr q hq e => apartT (h.N.mem r hr).1 h.I.own (by decide) q hq e), h.A.ch f2 (fun q hq e => apartT h.A.own h.I.own (by decide) q hq e) (fun r hr q hq e => apartT (h.A.mem r hr).1 h.I.own (by decide) q hq e), h.bk.ch f2 (fun x hx e => h.nb x (.inl e) hx), h.ch.trans f2 (fun _ _ e => .inl e), ?_, h.fN, h.fA, h.nb⟩
  intro r hr q hq
  rcases List.mem_append.1 hr with k | k
  · exact h.fI r k q hq
  · rw [List.mem_singleton.1 k] at hq
    rcases f3 q hq with z | z
    · exact .inl z
    · exact .inr (Nat.le_trans h.ch.size z)
theorem KpS.appN {w0 W : World} {BK : Nat} {b : BV} {m : Int} {lI lN lA : Value} {nI nN nA TI TN TA : Nat} {xI xN xA : List Value} {FI FN FA : List (Value × Nat)} (h : KpS w0 W BK b m lI lN lA nI nN nA TI TN TA xI xN xA FI FN FA) {W' : World} {j : Nat} {v : Value} (f1 : Fg.Fy W' 0 48 xN (nbC (mkB m)).toList lN nN j (FN ++ [(v, j)])) (f2 : Ch (fun q => lN.ownBlock = some q) W W') (f3 : ∀ q, v.ownBlock = some q → lN.ownBlock = some q ∨ W.heap.size ≤ q) : KpS w0 W' BK b m lI lN lA nI nN nA TI j TA xI xN xA FI (FN ++ [(v, j)]) FA := by
  refine ⟨h.I.ch f2 (fun q hq e => apartT h.I.own h.N.own (by decide) q hq e) (fun r hr q hq e => apartT (h.I.mem r hr).1 h.N.own (by decide) q hq e), f1, h.A.ch f2 (fun q hq e => apartT h.A.own h.N.own (by decide) q hq e) (fun r hr q hq e => apartT (h.A.mem r hr).1 h.N.own (by decide) q hq e), h.bk.ch f2 (fun x hx e => h.nb x (.inr (.inl e)) hx), h.ch.trans f2 (fun _ _ e => .inr (.inl e)), h.fI, ?_, h.fA, h.nb⟩
  intro r hr q hq
  rcases List.mem_append.1 hr with k | k
  · exact h.fN r k q hq
  · rw [List.mem_singleton.1 k] at hq
    rcases f3 q hq with z | z
    · exact .inl z
    · exact .inr (Nat.le_trans h.ch.size z)
theorem KpS.appA {w0 W : World} {BK : Nat} {b : BV} {m : Int} {lI lN lA : Value} {nI nN nA TI TN TA : Nat} {xI xN xA : List Value} {FI FN FA : List (Value × Nat)} (h : KpS w0 W BK b m lI lN lA nI nN nA TI TN TA xI xN xA FI FN FA) {W' : World} {j : Nat} {v : Value} (f1 : Fg.Fy W' 0 114 xA (akC (mkK m)).toList lA nA j (FA ++ [(v, j)])) (f2 : Ch (fun q => lA.ownBlock = some q) W W') (f3 : ∀ q, v.ownBlock = some q → lA.ownBlock = some q ∨ W.heap.size ≤ q) : KpS w0 W' BK b m lI lN lA nI nN nA TI TN j xI xN xA FI FN (FA ++ [(v, j)]) := by
  refine ⟨h.I.ch f2 (fun q hq e => apartT h.I.own h.A.own (by decide) q hq e) (fun r hr q hq e => apartT (h.I.mem r hr).1 h.A.own (by decide) q hq e), h.N.ch f2 (fun q hq e => apartT h.N.own h.A.own (by decide) q hq e) (fun r hr q hq e => apartT (h.N.mem r hr).1 h.A.own (by decide) q hq e), f1, h.bk.ch f2 (fun x hx e => h.nb x (.inr (.inr e)) hx), h.ch.trans f2 (fun _ _ e => .inr (.inr e)), h.fI, h.fN, ?_, h.nb⟩
  intro r hr q hq
  rcases List.mem_append.1 hr with k | k
  · exact h.fA r k q hq
  · rw [List.mem_singleton.1 k] at hq
    rcases f3 q hq with z | z
    · exact .inl z
    · exact .inr (Nat.le_trans h.ch.size z)
end No
end Go.Proofs.Ytnpipngiehohgaa
namespace Go.Proofs.Ytnpipngiehohgaa
open Go.RowKit Go.Maps
namespace No

theorem run_bsi1 (m : Int) (w : World) : (Instr.buildSlice 39 1 #[(0, .int .i64 m)]).run Try.prog w = .ok (.slice (some ⟨w.heap.size, 0, none⟩) 1 1) (w.alloc (.cells #[.int .i64 m] 3)) := by kernel_rfl
theorem bsr_i1 (m : Int) : (#[.int .i64 m] : Array Value).toList = Fg.rep 1 [Value.int .i64 m] := rfl
theorem wpList_bsi1 {ops : Array Oper} {rest : List Oper} {o : Oper} {a : Act} {w : World} {Q : Exit → Act → World → Prop} (x0 : Operand) (ho : o.op = .buildSlice 39 1 #[(0, x0)]) (m : Int) (h0 : a.eval x0 = .int .i64 m) (hw : Region.wanted o (yielded ops a.tmps) = true)
    (h : ∀ X W, w.heap.size = X → Below w.heap.size w W → (∀ j u, (Fg.rep 1 [Value.int .i64 m])[j]? = some u → W.cell? ⟨X, j, none⟩ = some u) → wpList Try.prog ops Q rest (a.put o.dst (.slice (some ⟨X, 0, none⟩) 1 1)) W) : wpList Try.prog ops Q (o :: rest) a w := by
  refine wpList_step fun K hK => ?_
  rw [if_pos hw]
  unfold Oper.wp execOp
  simp only [ho, Sem.run_bind, List.map_toArray, List.map_cons, List.map_nil, h0, run_bsi1 m w, Result.andThen_ok]
  refine hK _ _ (h _ _ rfl ((Below.refl _ _).alloc (Nat.le_refl _) _) (fun j u hu => ?_))
  rw [World.cell?_alloc_at _ _ _ _ rfl, ← Array.getElem?_toList, bsr_i1]
  exact hu
theorem run_bsi2 (m : Int) (w : World) : (Instr.buildSlice 39 2 #[(0, .int .i64 m), (1, .int .i64 m)]).run Try.prog w = .ok (.slice (some ⟨w.heap.size, 0, none⟩) 2 2) (w.alloc (.cells #[.int .i64 m, .int .i64 m] 3)) := by kernel_rfl
theorem bsr_i2 (m : Int) : (#[.int .i64 m, .int .i64 m] : Array Value).toList = Fg.rep 2 [Value.int .i64 m] := rfl
theorem wpList_bsi2 {ops : Array Oper} {rest : List Oper} {o : Oper} {a : Act} {w : World} {Q : Exit → Act → World → Prop} (x0 x1 : Operand) (ho : o.op = .buildSlice 39 2 #[(0, x0), (1, x1)]) (m : Int) (h0 : a.eval x0 = .int .i64 m) (h1 : a.eval x1 = .int .i64 m) (hw : Region.wanted o (yielded ops a.tmps) = true)
    (h : ∀ X W, w.heap.size = X → Below w.heap.size w W → (∀ j u, (Fg.rep 2 [Value.int .i64 m])[j]? = some u → W.cell? ⟨X, j, none⟩ = some u) → wpList Try.prog ops Q rest (a.put o.dst (.slice (some ⟨X, 0, none⟩) 2 2)) W) : wpList Try.prog ops Q (o :: rest) a w := by
  refine wpList_step fun K hK => ?_
  rw [if_pos hw]
  unfold Oper.wp execOp
  simp only [ho, Sem.run_bind, List.map_toArray, List.map_cons, List.map_nil, h0, h1, run_bsi2 m w, Result.andThen_ok]
  refine hK _ _ (h _ _ rfl ((Below.refl _ _).alloc (Nat.le_refl _) _) (fun j u hu => ?_))
  rw [World.cell?_alloc_at _ _ _ _ rfl, ← Array.getElem?_toList, bsr_i2]
  exact hu
theorem infoI : ∃ i z, Try.prog.info? 3 = some i ∧ i.zero = some z ∧ i.size = 1 ∧ z.cells.size = 1 ∧ i.bytes ≤ 1000 := by
  have h : (Try.prog.info? 3).any (fun i => i.zero.any (fun z => i.size == 1 && z.cells.size == 1 && decide (i.bytes ≤ 1000))) = true := by kernel_rfl
  cases hi : Try.prog.info? 3 with
  | none => rw [hi] at h; simp at h
  | some i =>
    rw [hi] at h
    cases hz : i.zero with
    | none => rw [Option.any_some, hz] at h; simp at h
    | some z =>
      rw [Option.any_some, hz, Option.any_some] at h
      simp only [Bool.and_eq_true, beq_iff_eq, decide_eq_true_eq] at h
      exact ⟨i, z, rfl, hz, h.1.1, h.1.2, h.2⟩
theorem wpList_apI {ops : Array Oper} {rest : List Oper} {o : Oper} {a : Act} {w : World} {Q : Exit → Act → World → Prop} (hgd : o.guard = none) (s x : Operand) (ho : o.op = .call { callee := .builtin .append, args := #[s, x], argTypes := #[39, 39] })
    {w0 : World} {BK : Nat} {b : BV} {m : Int} {lI lN lA : Value} {nI nN nA TI TN TA : Nat} {xI xN xA : List Value} {FI FN FA : List (Value × Nat)} (H : KpS w0 w BK b m lI lN lA nI nN nA TI TN TA xI xN xA FI FN FA) (hs : a.eval s = lI) (X j : Nat) (hx : a.eval x = .slice (some ⟨X, 0, none⟩) j j) (hnew : ∀ t u, (Fg.rep j [Value.int .i64 m])[t]? = some u → w.cell? ⟨X, t, none⟩ = some u) (hT : TI ≤ j) (hb : nI + j ≤ 70000)
    (h : ∀ va vc w', KpS w0 w' BK b m lI lN lA nI nN nA j TN TA xI xN xA (FI ++ [(.slice va (nI + j) vc, j)]) FN FA → wpList Try.prog ops Q rest (a.put o.dst (.slice va (nI + j) vc)) w') : wpList Try.prog ops Q (o :: rest) a w := by
  obtain ⟨i0, z0, hi0, hz0, hz1, hz2, hz3⟩ := infoI
  refine Fg.append_fy hgd s x 39 ho 0 3 i0 z0 i0.bytes xI [.int .i64 m] (by show 0 < 1; omega) Try.underlying39 hi0 hz0 hz1 rfl hz2 lI nI TI FI hs H.I ⟨X, 0, none⟩ j j hx hT (fun t u hu => by rw [Addr.add_lit, Nat.zero_add]; exact hnew t u hu) ?_ (by unfold maxLen; omega) (Nat.le_trans (Nat.mul_le_mul hb hz3) (by decide)) (Nat.zero_le _) ?_
  · intro u hu
    simp only [List.mem_singleton] at hu; subst hu; rfl
  · intro v' w' ff
    obtain ⟨f1, f2, f3, va, vc, rfl⟩ := ff.out
    exact h va vc w' (H.appI f1 f2 f3)
theorem infoN : ∃ i z, Try.prog.info? 48 = some i ∧ i.zero = some z ∧ i.size = 28 ∧ z.cells.size = 28 ∧ i.bytes ≤ 1000 := by
  have h : (Try.prog.info? 48).any (fun i => i.zero.any (fun z => i.size == 28 && z.cells.size == 28 && decide (i.bytes ≤ 1000))) = true := by kernel_rfl
  cases hi : Try.prog.info? 48 with
  | none => rw [hi] at h; simp at h
  | some i =>
    rw [hi] at h
    cases hz : i.zero with
    | none => rw [Option.any_some, hz] at h; simp at h
    | some z =>
      rw [Option.any_some, hz, Option.any_some] at h
      simp only [Bool.and_eq_true, beq_iff_eq, decide_eq_true_eq] at h
      exact ⟨i, z, rfl, hz, h.1.1, h.1.2, h.2⟩
theorem wpList_apN {ops : Array Oper} {rest : List Oper} {o : Oper} {a : Act} {w : World} {Q : Exit → Act → World → Prop} (hgd : o.guard = none) (s x : Operand) (ho : o.op = .call { callee := .builtin .append, args := #[s, x], argTypes := #[45, 45] })
    {w0 : World} {BK : Nat} {b : BV} {m : Int} {lI lN lA : Value} {nI nN nA TI TN TA : Nat} {xI xN xA : List Value} {FI FN FA : List (Value × Nat)} (H : KpS w0 w BK b m lI lN lA nI nN nA TI TN TA xI xN xA FI FN FA) (hs : a.eval s = lN) (X j : Nat) (hx : a.eval x = .slice (some ⟨X, 0, none⟩) j j) (hnew : ∀ t u, (Fg.rep j (nbC (mkB m)).toList)[t]? = some u → w.cell? ⟨X, t, none⟩ = some u) (hT : TN ≤ j) (hb : nN + j ≤ 70000)
    (h : ∀ va vc w', KpS w0 w' BK b m lI lN lA nI nN nA TI j TA xI xN xA FI (FN ++ [(.slice va (nN + j) vc, j)]) FA → wpList Try.prog ops Q rest (a.put o.dst (.slice va (nN + j) vc)) w') : wpList Try.prog ops Q (o :: rest) a w := by
  obtain ⟨i0, z0, hi0, hz0, hz1, hz2, hz3⟩ := infoN
  refine Fg.append_fy hgd s x 45 ho 0 48 i0 z0 i0.bytes xN (nbC (mkB m)).toList (by show 0 < 28; omega) Try.underlying45 hi0 hz0 hz1 rfl hz2 lN nN TN FN hs H.N ⟨X, 0, none⟩ j j hx hT (fun t u hu => by rw [Addr.add_lit, Nat.zero_add]; exact hnew t u hu) ?_ (by unfold maxLen; omega) (Nat.le_trans (Nat.mul_le_mul hb hz3) (by decide)) (Nat.zero_le _) ?_
  · intro u hu
    have h1 : (nbC (mkB m)).toList.all (·.oneCell') = true := rfl
    exact List.all_eq_true.1 h1 u hu
  · intro v' w' ff
    obtain ⟨f1, f2, f3, va, vc, rfl⟩ := ff.out
    exact h va vc w' (H.appN f1 f2 f3)
theorem infoA : ∃ i z, Try.prog.info? 114 = some i ∧ i.zero = some z ∧ i.size = 25 ∧ z.cells.size = 25 ∧ i.bytes ≤ 1000 := by
  have h : (Try.prog.info? 114).any (fun i => i.zero.any (fun z => i.size == 25 && z.cells.size == 25 && decide (i.bytes ≤ 1000))) = true := by kernel_rfl
  cases hi : Try.prog.info? 114 with
  | none => rw [hi] at h; simp at h
  | some i =>
    rw [hi] at h
    cases hz : i.zero with
    | none => rw [Option.any_some, hz] at h; simp at h
    | some z =>
      rw [Option.any_some, hz, Option.any_some] at h
      simp only [Bool.and_eq_true, beq_iff_eq, decide_eq_true_eq] at h
      exact ⟨i, z, rfl, hz, h.1.1, h.1.2, h.2⟩
theorem wpList_apA {ops : Array Oper} {rest : List Oper} {o : Oper} {a : Act} {w : World} {Q : Exit → Act → World → Prop} (hgd : o.guard = none) (s x : Operand) (ho : o.op = .call { callee := .builtin .append, args := #[s, x], argTypes := #[42, 42] })
    {w0 : World} {BK : Nat} {b : BV} {m : Int} {lI lN lA : Value} {nI nN nA TI TN TA : Nat} {xI xN xA : List Value} {FI FN FA : List (Value × Nat)} (H : KpS w0 w BK b m lI lN lA nI nN nA TI TN TA xI xN xA FI FN FA) (hs : a.eval s = lA) (X j : Nat) (hx : a.eval x = .slice (some ⟨X, 0, none⟩) j j) (hnew : ∀ t u, (Fg.rep j (akC (mkK m)).toList)[t]? = some u → w.cell? ⟨X, t, none⟩ = some u) (hT : TA ≤ j) (hb : nA + j ≤ 70000)
    (h : ∀ va vc w', KpS w0 w' BK b m lI lN lA nI nN nA TI TN j xI xN xA FI FN (FA ++ [(.slice va (nA + j) vc, j)]) → wpList Try.prog ops Q rest (a.put o.dst (.slice va (nA + j) vc)) w') : wpList Try.prog ops Q (o :: rest) a w := by
  obtain ⟨i0, z0, hi0, hz0, hz1, hz2, hz3⟩ := infoA
  refine Fg.append_fy hgd s x 42 ho 0 114 i0 z0 i0.bytes xA (akC (mkK m)).toList (by show 0 < 25; omega) Try.underlying42 hi0 hz0 hz1 rfl hz2 lA nA TA FA hs H.A ⟨X, 0, none⟩ j j hx hT (fun t u hu => by rw [Addr.add_lit, Nat.zero_add]; exact hnew t u hu) ?_ (by unfold maxLen; omega) (Nat.le_trans (Nat.mul_le_mul hb hz3) (by decide)) (Nat.zero_le _) ?_
  · intro u hu
    have h1 : (akC (mkK m)).toList.all (·.oneCell') = true := rfl
    exact List.all_eq_true.1 h1 u hu
  · intro v' w' ff
    obtain ⟨f1, f2, f3, va, vc, rfl⟩ := ff.out
    exact h va vc w' (H.appA f1 f2 f3)
end No
end Go.Proofs.Ytnpipngiehohgaa
namespace Go.Proofs.Ytnpipngiehohgaa
open Go.RowKit Go.Maps
namespace No

theorem BkM.longI {W W' : World} {BK l : Nat} {b : BV} {ba : Option Addr} {bc : Nat} (h : BkM W BK b) (hv : b.hI = .slice ba l bc) (hl : b.I.length = l) {u : Value} (R : List (Value × Nat)) (hR : ∀ j r, R[j]? = some r → RwOk W 3 1 (pm (l + j)) r) (hK : ∀ r, r ∈ R → r.1.ownBlock ≠ some BK)
    (r1 : W'.ownsRow 0 39 1 u (l + R.length) (b.I.map (fun r => r.1) ++ R.map (fun r => r.1))) (r2 : W.grownBy W' (Value.slice ba l bc).ownBlock) (r4 : u.ownBlock = (Value.slice ba l bc).ownBlock ∨ u.ownBlock = some W.heap.size) :
    BkM (W'.setCell ⟨BK, 0, none⟩ u) BK { b with hI := u, I := b.I ++ R } ∧ Ch (fun x => x = BK ∨ b.hI.ownBlock = some x) W (W'.setCell ⟨BK, 0, none⟩ u) ∧ (∀ q, u.ownBlock = some q → b.hI.ownBlock = some q ∨ W.heap.size ≤ q) := by
  have cc : Ch (fun q => b.hI.ownBlock = some q) W W' := (Ch.ofGrown r2).mono (fun x _ q => by rw [hv]; exact q)
  have hn : ∀ q, u.ownBlock = some q → b.hI.ownBlock = some q ∨ W.heap.size ≤ q := by
    intro q hq
    rcases r4 with k | k
    · exact .inl (by rw [hv, ← k]; exact hq)
    · rw [k] at hq
      simp only [Option.some.injEq] at hq
      exact .inr (by omega)
  have key : ∀ {i : Nat} {r : Value × Nat}, RwOk W 3 1 (pm i) r → RwOk W' 3 1 (pm i) r := fun {i r} hr => hr.ch cc (fun g hg e => by obtain ⟨xs, h1, _⟩ := hr; exact apartT h.oI h1 (by decide) g e hg)
  refine ⟨h.setI cc u (b.I ++ R) ?_ hn ?_ ?_, (cc.mono (fun _ _ e => .inr e)).trans ((Ch.refl (fun q => q = BK) W').set ⟨BK, 0, none⟩ u rfl) (fun _ _ e => .inl e), hn⟩
  · rw [List.length_append, hl, List.map_append]
    exact r1
  · intro i r hi
    by_cases hlt : i < b.I.length
    · rw [List.getElem?_append_left hlt] at hi
      exact key (h.eI i r hi)
    · rw [List.getElem?_append_right (by omega), hl] at hi
      have h2 := hR _ r hi
      rw [show l + (i - l) = i by omega] at h2
      exact key h2
  · intro r hr e
    rcases List.mem_append.1 hr with q | q
    · exact h.nK BK (.inr (.inr (.inr (.inl ⟨r, q, e⟩)))) rfl
    · exact hK r q e
theorem BkM.longN {W W' : World} {BK l : Nat} {b : BV} {ba : Option Addr} {bc : Nat} (h : BkM W BK b) (hv : b.hN = .slice ba l bc) (hl : b.N.length = l) {u : Value} (R : List (Value × Nat)) (hR : ∀ j r, R[j]? = some r → RwOk W 48 28 (pm (l + j)) r) (hK : ∀ r, r ∈ R → r.1.ownBlock ≠ some BK)
    (r1 : W'.ownsRow 0 45 1 u (l + R.length) (b.N.map (fun r => r.1) ++ R.map (fun r => r.1))) (r2 : W.grownBy W' (Value.slice ba l bc).ownBlock) (r4 : u.ownBlock = (Value.slice ba l bc).ownBlock ∨ u.ownBlock = some W.heap.size) :
    BkM (W'.setCell ⟨BK, 1, none⟩ u) BK { b with hN := u, N := b.N ++ R } ∧ Ch (fun x => x = BK ∨ b.hN.ownBlock = some x) W (W'.setCell ⟨BK, 1, none⟩ u) ∧ (∀ q, u.ownBlock = some q → b.hN.ownBlock = some q ∨ W.heap.size ≤ q) := by
  have cc : Ch (fun q => b.hN.ownBlock = some q) W W' := (Ch.ofGrown r2).mono (fun x _ q => by rw [hv]; exact q)
  have hn : ∀ q, u.ownBlock = some q → b.hN.ownBlock = some q ∨ W.heap.size ≤ q := by
    intro q hq
    rcases r4 with k | k
    · exact .inl (by rw [hv, ← k]; exact hq)
    · rw [k] at hq
      simp only [Option.some.injEq] at hq
      exact .inr (by omega)
  have key : ∀ {i : Nat} {r : Value × Nat}, RwOk W 48 28 (pm i) r → RwOk W' 48 28 (pm i) r := fun {i r} hr => hr.ch cc (fun g hg e => by obtain ⟨xs, h1, _⟩ := hr; exact apartT h.oN h1 (by decide) g e hg)
  refine ⟨h.setN cc u (b.N ++ R) ?_ hn ?_ ?_, (cc.mono (fun _ _ e => .inr e)).trans ((Ch.refl (fun q => q = BK) W').set ⟨BK, 1, none⟩ u rfl) (fun _ _ e => .inl e), hn⟩
  · rw [List.length_append, hl, List.map_append]
    exact r1
  · intro i r hi
    by_cases hlt : i < b.N.length
    · rw [List.getElem?_append_left hlt] at hi
      exact key (h.eN i r hi)
    · rw [List.getElem?_append_right (by omega), hl] at hi
      have h2 := hR _ r hi
      rw [show l + (i - l) = i by omega] at h2
      exact key h2
  · intro r hr e
    rcases List.mem_append.1 hr with q | q
    · exact h.nK BK (.inr (.inr (.inr (.inr (.inl ⟨r, q, e⟩))))) rfl
    · exact hK r q e
theorem BkM.longA {W W' : World} {BK l : Nat} {b : BV} {ba : Option Addr} {bc : Nat} (h : BkM W BK b) (hv : b.hA = .slice ba l bc) (hl : b.A.length = l) {u : Value} (R : List (Value × Nat)) (hR : ∀ j r, R[j]? = some r → RwOk W 114 25 (pm (l + j)) r) (hK : ∀ r, r ∈ R → r.1.ownBlock ≠ some BK)
    (r1 : W'.ownsRow 0 42 1 u (l + R.length) (b.A.map (fun r => r.1) ++ R.map (fun r => r.1))) (r2 : W.grownBy W' (Value.slice ba l bc).ownBlock) (r4 : u.ownBlock = (Value.slice ba l bc).ownBlock ∨ u.ownBlock = some W.heap.size) :
    BkM (W'.setCell ⟨BK, 2, none⟩ u) BK { b with hA := u, A := b.A ++ R } ∧ Ch (fun x => x = BK ∨ b.hA.ownBlock = some x) W (W'.setCell ⟨BK, 2, none⟩ u) ∧ (∀ q, u.ownBlock = some q → b.hA.ownBlock = some q ∨ W.heap.size ≤ q) := by
  have cc : Ch (fun q => b.hA.ownBlock = some q) W W' := (Ch.ofGrown r2).mono (fun x _ q => by rw [hv]; exact q)
  have hn : ∀ q, u.ownBlock = some q → b.hA.ownBlock = some q ∨ W.heap.size ≤ q := by
    intro q hq
    rcases r4 with k | k
    · exact .inl (by rw [hv, ← k]; exact hq)
    · rw [k] at hq
      simp only [Option.some.injEq] at hq
      exact .inr (by omega)
  have key : ∀ {i : Nat} {r : Value × Nat}, RwOk W 114 25 (pm i) r → RwOk W' 114 25 (pm i) r := fun {i r} hr => hr.ch cc (fun g hg e => by obtain ⟨xs, h1, _⟩ := hr; exact apartT h.oA h1 (by decide) g e hg)
  refine ⟨h.setA cc u (b.A ++ R) ?_ hn ?_ ?_, (cc.mono (fun _ _ e => .inr e)).trans ((Ch.refl (fun q => q = BK) W').set ⟨BK, 2, none⟩ u rfl) (fun _ _ e => .inl e), hn⟩
  · rw [List.length_append, hl, List.map_append]
    exact r1
  · intro i r hi
    by_cases hlt : i < b.A.length
    · rw [List.getElem?_append_left hlt] at hi
      exact key (h.eA i r hi)
    · rw [List.getElem?_append_right (by omega), hl] at hi
      have h2 := hR _ r hi
      rw [show l + (i - l) = i by omega] at h2
      exact key h2
  · intro r hr e
    rcases List.mem_append.1 hr with q | q
    · exact h.nK BK (.inr (.inr (.inr (.inr (.inr ⟨r, q, e⟩))))) rfl
    · exact hK r q e
theorem three (w : World) (x y z : Value) (T : TypeId) : ∀ j u, ([x, y, z] : List Value)[j]? = some u → (w.alloc (.cells #[x, y, z] T)).cell? ((⟨w.heap.size, 0, none⟩ : Addr).add j) = some u := by
  intro j u hu
  rw [Addr.add_lit, Nat.zero_add, World.cell?_alloc_at _ _ _ _ rfl, ← Array.getElem?_toList]
  exact hu
end No
end Go.Proofs.Ytnpipngiehohgaa
namespace Go.Proofs.Ytnpipngiehohgaa
open Go.RowKit Go.Maps
namespace No

/-- the headers under way: the rows RI RN RA that they get, ready in memory -/
structure HdS (w : World) (BK : Nat) (b : BV) (OW : Nat → Prop) (L : Nat) (RI RN RA : List (Value × Nat)) (W : World) (bi : BV) : Prop where
  bk : BkM W BK bi
  ch : Ch (fun x => BB BK b x ∨ OW x) w W
  nb : ∀ x, BB BK bi x → BB BK b x ∨ OW x ∨ w.heap.size ≤ x
  lt : BK < w.heap.size
  ow : ¬ OW BK
  pI : ∀ j r, RI[j]? = some r → RwOk W 3 1 (pm (L + j)) r
  pN : ∀ j r, RN[j]? = some r → RwOk W 48 28 (pm (L + j)) r
  pA : ∀ j r, RA[j]? = some r → RwOk W 114 25 (pm (L + j)) r
  qI : ∀ r, r ∈ RI → ∀ q, r.1.ownBlock = some q → OW q ∨ w.heap.size ≤ q
  qN : ∀ r, r ∈ RN → ∀ q, r.1.ownBlock = some q → OW q ∨ w.heap.size ≤ q
  qA : ∀ r, r ∈ RA → ∀ q, r.1.ownBlock = some q → OW q ∨ w.heap.size ≤ q
theorem HdS.notK {w : World} {BK : Nat} {b : BV} {OW : Nat → Prop} {L : Nat} {RI RN RA : List (Value × Nat)} {W : World} {bi : BV} (h : HdS w BK b OW L RI RN RA W bi) {R : List (Value × Nat)} (hq : ∀ r, r ∈ R → ∀ q, r.1.ownBlock = some q → OW q ∨ w.heap.size ≤ q) : ∀ r, r ∈ R → r.1.ownBlock ≠ some BK := fun r hr e => by
  rcases hq r hr BK e with k | k
  · exact h.ow k
  · have := h.lt; omega
theorem HdS.below {w : World} {BK : Nat} {b : BV} {OW : Nat → Prop} {L : Nat} {RI RN RA : List (Value × Nat)} {W : World} {bi : BV} (h : HdS w BK b OW L RI RN RA W bi) {W' : World} (k : Below W.heap.size W W') : HdS w BK b OW L RI RN RA W' bi :=
  have c : Ch (fun _ => False) W W' := Ch.ofBelow (S := fun _ => False) k
  ⟨h.bk.below k, h.ch.trans c (fun _ _ e => e.elim), h.nb, h.lt, h.ow, fun j r e => (h.pI j r e).ch c (fun _ _ => id), fun j r e => (h.pN j r e).ch c (fun _ _ => id), fun j r e => (h.pA j r e).ch c (fun _ _ => id), h.qI, h.qN, h.qA⟩
theorem run_bs3I (a0 a1 a2 : Option Addr) (n0 c0 n1 c1 n2 c2 : Nat) (w : World) : (Instr.buildSlice 65 3 #[(0, .slice a0 n0 c0), (1, .slice a1 n1 c1), (2, .slice a2 n2 c2)]).run Try.prog w = .ok (.slice (some ⟨w.heap.size, 0, none⟩) 3 3) (w.alloc (.cells #[.slice a0 n0 c0, .slice a1 n1 c1, .slice a2 n2 c2] 39)) := by kernel_rfl
theorem wpList_bs3I {ops : Array Oper} {rest : List Oper} {o : Oper} {a : Act} {w : World} {Q : Exit → Act → World → Prop} (x0 x1 x2 : Operand) (ho : o.op = .buildSlice 65 3 #[(0, x0), (1, x1), (2, x2)]) (a0 a1 a2 : Option Addr) (n0 c0 n1 c1 n2 c2 : Nat) (h0 : a.eval x0 = .slice a0 n0 c0) (h1 : a.eval x1 = .slice a1 n1 c1) (h2 : a.eval x2 = .slice a2 n2 c2) (hw : Region.wanted o (yielded ops a.tmps) = true)
    (h : ∀ X W, Hid (Below w.heap.size w W ∧ ∀ j u, ([.slice a0 n0 c0, .slice a1 n1 c1, .slice a2 n2 c2] : List Value)[j]? = some u → W.cell? ⟨X, j, none⟩ = some u) → wpList Try.prog ops Q rest (a.put o.dst (.slice (some ⟨X, 0, none⟩) 3 3)) W) : wpList Try.prog ops Q (o :: rest) a w := by
  refine wpList_step fun K hK => ?_
  rw [if_pos hw]
  unfold Oper.wp execOp
  simp only [ho, Sem.run_bind, List.map_toArray, List.map_cons, List.map_nil, h0, h1, h2, run_bs3I _ _ _ _ _ _ _ _ _ w, Result.andThen_ok]
  refine hK _ _ (h _ _ ⟨(Below.refl _ _).alloc (Nat.le_refl _) _, fun j u hu => ?_⟩)
  rw [World.cell?_alloc_at _ _ _ _ rfl, ← Array.getElem?_toList]
  exact hu
theorem infoHI : ∃ i z, Try.prog.info? 39 = some i ∧ i.zero = some z ∧ i.size = 1 ∧ z.cells.size = 1 ∧ i.bytes ≤ 1000 := by
  have h : (Try.prog.info? 39).any (fun i => i.zero.any (fun z => i.size == 1 && z.cells.size == 1 && decide (i.bytes ≤ 1000))) = true := by kernel_rfl
  cases hi : Try.prog.info? 39 with
  | none => rw [hi] at h; simp at h
  | some i =>
    rw [hi] at h
    cases hz : i.zero with
    | none => rw [Option.any_some, hz] at h; simp at h
    | some z =>
      rw [Option.any_some, hz, Option.any_some] at h
      simp only [Bool.and_eq_true, beq_iff_eq, decide_eq_true_eq] at h
      exact ⟨i, z, rfl, hz, h.1.1, h.1.2, h.2⟩
theorem wpList_hdI {ops : Array Oper} {rest : List Oper} {o : Oper} {a : Act} {W : World} {Q : Exit → Act → World → Prop} (hgd : o.guard = none) (s x : Operand) (ho : o.op = .call { callee := .builtin .append, args := #[s, x], argTypes := #[65, 65] })
    {w : World} {BK : Nat} {b : BV} {OW : Nat → Prop} {L : Nat} {RI RN RA : List (Value × Nat)} {bi : BV} (H : HdS w BK b OW L RI RN RA W bi) (ba : Option Addr) (bc : Nat) (hv : bi.hI = .slice ba L bc) (hl : bi.I.length = L) (hs : a.eval s = .slice ba L bc) (X : Nat) (hm : RI.length = 3) (hx : a.eval x = .slice (some ⟨X, 0, none⟩) 3 3) (hnew : ∀ j u, (RI.map (fun r => r.1))[j]? = some u → W.cell? ⟨X, j, none⟩ = some u) (h1 : ∀ r, r ∈ RI → r.1.oneCell' = true) (hb : L ≤ 1000000)
    (h : ∀ ua uc W', W'.cell? ⟨BK, 0, none⟩ = some (.slice ba L bc) → W'.frozen? ⟨BK, 0, none⟩ = false → Hid (∃ b', HdS w BK b OW L RI RN RA (W'.setCell ⟨BK, 0, none⟩ (.slice ua (L + 3) uc)) b' ∧ b'.I.length = L + 3 ∧ b'.hN = bi.hN ∧ b'.N = bi.N ∧ b'.hA = bi.hA ∧ b'.A = bi.A) → wpList Try.prog ops Q rest (a.put o.dst (.slice ua (L + 3) uc)) W') : wpList Try.prog ops Q (o :: rest) a W := by
  obtain ⟨i0, z0, hi0, hz0, hz1, hz2, hz3⟩ := infoHI
  have ho1 := H.bk.oI
  rw [hv, hl] at ho1
  refine wpList_append_own_at W hgd s x 65 ho 0 39 i0 z0 1 i0.bytes Try.underlying65 hi0 hz0 hz1 rfl hz2 (by decide) _ L _ hs ho1 ⟨X, 0, none⟩ 3 3 (RI.map (fun r => r.1)) hx (by rw [List.length_map, hm]) (fun j u hu => by rw [Addr.add_lit, Nat.zero_add]; exact hnew j u hu) ?_ (by unfold maxLen; omega) (Nat.le_trans (Nat.mul_le_mul (show L + 3 ≤ 1000003 by omega) hz3) (by decide)) (Nat.zero_le _) ?_
  · intro u hu
    obtain ⟨r, hr, rfl⟩ := List.mem_map.1 hu
    exact h1 r hr
  · intro u W' r1 r2 _ r4
    obtain ⟨ua, uc, rfl⟩ := owns_shape r1
    have r1' : W'.ownsRow 0 39 1 (.slice ua (L + 3) uc) (L + RI.length) (bi.I.map (fun r => r.1) ++ RI.map (fun r => r.1)) := by rw [hm]; exact r1
    obtain ⟨g1, g2, g3⟩ := H.bk.longI hv hl RI H.pI (H.notK H.qI) r1' r2 r4
    have cc : Ch (fun q => (Value.slice ba L bc).ownBlock = some q) W W' := Ch.ofGrown r2
    have hbK : ¬ (Value.slice ba L bc).ownBlock = some BK := fun e => H.bk.nK BK (by rw [← hv] at e; exact .inl e) rfl
    have hold : ∀ x, x < w.heap.size → (x = BK ∨ bi.hI.ownBlock = some x) → BB BK b x ∨ OW x := fun x hx e => by
      rcases H.nb x (e.elim .inl (fun e => .inr (.inl e))) with k | k | k
      · exact .inl k
      · exact .inr k
      · omega
    have lt5 := H.bk.lt BK (.inl rfl)
    refine h ua uc W' (cc.cell (by rw [← hv]; exact H.bk.c0) hbK) ((cc.frozen (p := ⟨BK, 0, none⟩) lt5 hbK).trans (H.bk.fz 0)) ⟨_, ⟨g1, H.ch.trans g2 hold, ?_, H.lt, H.ow, ?_, ?_, ?_, H.qI, H.qN, H.qA⟩, ?_, rfl, rfl, rfl, rfl⟩
    · intro q hq
      have size := H.ch.size
      rcases hq with e | e | e | e | ⟨r, hr, e⟩ | ⟨r, hr, e⟩ | ⟨r, hr, e⟩
      · exact H.nb q (.inl e)
      · rcases g3 q e with e | e
        · exact H.nb q (.inr (.inl e))
        · exact .inr (.inr (Nat.le_trans size e))
      · exact H.nb q (.inr (.inr (.inl e)))
      · exact H.nb q (.inr (.inr (.inr (.inl e))))
      · rcases List.mem_append.1 hr with hr | hr
        · exact H.nb q (.inr (.inr (.inr (.inr (.inl ⟨r, hr, e⟩)))))
        · exact .inr (H.qI r hr q e)
      · exact H.nb q (.inr (.inr (.inr (.inr (.inr (.inl ⟨r, hr, e⟩))))))
      · exact H.nb q (.inr (.inr (.inr (.inr (.inr (.inr ⟨r, hr, e⟩))))))
    · exact fun j r e => (H.pI j r e).ch g2 (fun g hg e2 => by
        rcases e2 with e2 | e2
        · exact H.notK H.qI r (List.mem_of_getElem? e) (by rw [← e2]; exact hg)
        · obtain ⟨xs, h5, _⟩ := H.pI j r e
          exact apartT H.bk.oI h5 (by decide) g e2 hg)
    · exact fun j r e => (H.pN j r e).ch g2 (fun g hg e2 => by
        rcases e2 with e2 | e2
        · exact H.notK H.qN r (List.mem_of_getElem? e) (by rw [← e2]; exact hg)
        · obtain ⟨xs, h5, _⟩ := H.pN j r e
          exact apartT H.bk.oI h5 (by decide) g e2 hg)
    · exact fun j r e => (H.pA j r e).ch g2 (fun g hg e2 => by
        rcases e2 with e2 | e2
        · exact H.notK H.qA r (List.mem_of_getElem? e) (by rw [← e2]; exact hg)
        · obtain ⟨xs, h5, _⟩ := H.pA j r e
          exact apartT H.bk.oI h5 (by decide) g e2 hg)
    · show (bi.I ++ RI).length = L + 3
      rw [List.length_append, hl, hm]
theorem run_bs3N (a0 a1 a2 : Option Addr) (n0 c0 n1 c1 n2 c2 : Nat) (w : World) : (Instr.buildSlice 66 3 #[(0, .slice a0 n0 c0), (1, .slice a1 n1 c1), (2, .slice a2 n2 c2)]).run Try.prog w = .ok (.slice (some ⟨w.heap.size, 0, none⟩) 3 3) (w.alloc (.cells #[.slice a0 n0 c0, .slice a1 n1 c1, .slice a2 n2 c2] 45)) := by kernel_rfl
theorem wpList_bs3N {ops : Array Oper} {rest : List Oper} {o : Oper} {a : Act} {w : World} {Q : Exit → Act → World → Prop} (x0 x1 x2 : Operand) (ho : o.op = .buildSlice 66 3 #[(0, x0), (1, x1), (2, x2)]) (a0 a1 a2 : Option Addr) (n0 c0 n1 c1 n2 c2 : Nat) (h0 : a.eval x0 = .slice a0 n0 c0) (h1 : a.eval x1 = .slice a1 n1 c1) (h2 : a.eval x2 = .slice a2 n2 c2) (hw : Region.wanted o (yielded ops a.tmps) = true)
    (h : ∀ X W, Hid (Below w.heap.size w W ∧ ∀ j u, ([.slice a0 n0 c0, .slice a1 n1 c1, .slice a2 n2 c2] : List Value)[j]? = some u → W.cell? ⟨X, j, none⟩ = some u) → wpList Try.prog ops Q rest (a.put o.dst (.slice (some ⟨X, 0, none⟩) 3 3)) W) : wpList Try.prog ops Q (o :: rest) a w := by
  refine wpList_step fun K hK => ?_
  rw [if_pos hw]
  unfold Oper.wp execOp
  simp only [ho, Sem.run_bind, List.map_toArray, List.map_cons, List.map_nil, h0, h1, h2, run_bs3N _ _ _ _ _ _ _ _ _ w, Result.andThen_ok]
  refine hK _ _ (h _ _ ⟨(Below.refl _ _).alloc (Nat.le_refl _) _, fun j u hu => ?_⟩)
  rw [World.cell?_alloc_at _ _ _ _ rfl, ← Array.getElem?_toList]
  exact hu
theorem infoHN : ∃ i z, Try.prog.info? 45 = some i ∧ i.zero = some z ∧ i.size = 1 ∧ z.cells.size = 1 ∧ i.bytes ≤ 1000 := by
  have h : (Try.prog.info? 45).any (fun i => i.zero.any (fun z => i.size == 1 && z.cells.size == 1 && decide (i.bytes ≤ 1000))) = true := by kernel_rfl
  cases hi : Try.prog.info? 45 with
  | none => rw [hi] at h; simp at h
  | some i =>
    rw [hi] at h
    cases hz : i.zero with
    | none => rw [Option.any_some, hz] at h; simp at h
    | some z =>
      rw [Option.any_some, hz, Option.any_some] at h
      simp only [Bool.and_eq_true, beq_iff_eq, decide_eq_true_eq] at h
      exact ⟨i, z, rfl, hz, h.1.1, h.1.2, h.2⟩
theorem wpList_hdN {ops : Array Oper} {rest : List Oper} {o : Oper} {a : Act} {W : World} {Q : Exit → Act → World → Prop} (hgd : o.guard = none) (s x : Operand) (ho : o.op = .call { callee := .builtin .append, args := #[s, x], argTypes := #[66, 66] })
    {w : World} {BK : Nat} {b : BV} {OW : Nat → Prop} {L : Nat} {RI RN RA : List (Value × Nat)} {bi : BV} (H : HdS w BK b OW L RI RN RA W bi) (ba : Option Addr) (bc : Nat) (hv : bi.hN = .slice ba L bc) (hl : bi.N.length = L) (hs : a.eval s = .slice ba L bc) (X : Nat) (hm : RN.length = 3) (hx : a.eval x = .slice (some ⟨X, 0, none⟩) 3 3) (hnew : ∀ j u, (RN.map (fun r => r.1))[j]? = some u → W.cell? ⟨X, j, none⟩ = some u) (h1 : ∀ r, r ∈ RN → r.1.oneCell' = true) (hb : L ≤ 1000000)
    (h : ∀ ua uc W', W'.cell? ⟨BK, 1, none⟩ = some (.slice ba L bc) → W'.frozen? ⟨BK, 1, none⟩ = false → Hid (∃ b', HdS w BK b OW L RI RN RA (W'.setCell ⟨BK, 1, none⟩ (.slice ua (L + 3) uc)) b' ∧ b'.N.length = L + 3 ∧ b'.hI = bi.hI ∧ b'.I = bi.I ∧ b'.hA = bi.hA ∧ b'.A = bi.A) → wpList Try.prog ops Q rest (a.put o.dst (.slice ua (L + 3) uc)) W') : wpList Try.prog ops Q (o :: rest) a W := by
  obtain ⟨i0, z0, hi0, hz0, hz1, hz2, hz3⟩ := infoHN
  have ho1 := H.bk.oN
  rw [hv, hl] at ho1
  refine wpList_append_own_at W hgd s x 66 ho 0 45 i0 z0 1 i0.bytes Try.underlying66 hi0 hz0 hz1 rfl hz2 (by decide) _ L _ hs ho1 ⟨X, 0, none⟩ 3 3 (RN.map (fun r => r.1)) hx (by rw [List.length_map, hm]) (fun j u hu => by rw [Addr.add_lit, Nat.zero_add]; exact hnew j u hu) ?_ (by unfold maxLen; omega) (Nat.le_trans (Nat.mul_le_mul (show L + 3 ≤ 1000003 by omega) hz3) (by decide)) (Nat.zero_le _) ?_
  · intro u hu
    obtain ⟨r, hr, rfl⟩ := List.mem_map.1 hu
    exact h1 r hr
  · intro u W' r1 r2 _ r4
    obtain ⟨ua, uc, rfl⟩ := owns_shape r1
    have r1' : W'.ownsRow 0 45 1 (.slice ua (L + 3) uc) (L + RN.length) (bi.N.map (fun r => r.1) ++ RN.map (fun r => r.1)) := by rw [hm]; exact r1
    obtain ⟨g1, g2, g3⟩ := H.bk.longN hv hl RN H.pN (H.notK H.qN) r1' r2 r4
    have cc : Ch (fun q => (Value.slice ba L bc).ownBlock = some q) W W' := Ch.ofGrown r2
    have hbK : ¬ (Value.slice ba L bc).ownBlock = some BK := fun e => H.bk.nK BK (by rw [← hv] at e; exact .inr (.inl e)) rfl
    have hold : ∀ x, x < w.heap.size → (x = BK ∨ bi.hN.ownBlock = some x) → BB BK b x ∨ OW x := fun x hx e => by
      rcases H.nb x (e.elim .inl (fun e => .inr (.inr (.inl e)))) with k | k | k
      · exact .inl k
      · exact .inr k
      · omega
    have lt5 := H.bk.lt BK (.inl rfl)
    refine h ua uc W' (cc.cell (by rw [← hv]; exact H.bk.c1) hbK) ((cc.frozen (p := ⟨BK, 1, none⟩) lt5 hbK).trans (H.bk.fz 1)) ⟨_, ⟨g1, H.ch.trans g2 hold, ?_, H.lt, H.ow, ?_, ?_, ?_, H.qI, H.qN, H.qA⟩, ?_, rfl, rfl, rfl, rfl⟩
    · intro q hq
      have size := H.ch.size
      rcases hq with e | e | e | e | ⟨r, hr, e⟩ | ⟨r, hr, e⟩ | ⟨r, hr, e⟩
      · exact H.nb q (.inl e)
      · exact H.nb q (.inr (.inl e))
      · rcases g3 q e with e | e
        · exact H.nb q (.inr (.inr (.inl e)))
        · exact .inr (.inr (Nat.le_trans size e))
      · exact H.nb q (.inr (.inr (.inr (.inl e))))
      · exact H.nb q (.inr (.inr (.inr (.inr (.inl ⟨r, hr, e⟩)))))
      · rcases List.mem_append.1 hr with hr | hr
        · exact H.nb q (.inr (.inr (.inr (.inr (.inr (.inl ⟨r, hr, e⟩))))))
        · exact .inr (H.qN r hr q e)
      · exact H.nb q (.inr (.inr (.inr (.inr (.inr (.inr ⟨r, hr, e⟩))))))
    · exact fun j r e => (H.pI j r e).ch g2 (fun g hg e2 => by
        rcases e2 with e2 | e2
        · exact H.notK H.qI r (List.mem_of_getElem? e) (by rw [← e2]; exact hg)
        · obtain ⟨xs, h5, _⟩ := H.pI j r e
          exact apartT H.bk.oN h5 (by decide) g e2 hg)
    · exact fun j r e => (H.pN j r e).ch g2 (fun g hg e2 => by
        rcases e2 with e2 | e2
        · exact H.notK H.qN r (List.mem_of_getElem? e) (by rw [← e2]; exact hg)
        · obtain ⟨xs, h5, _⟩ := H.pN j r e
          exact apartT H.bk.oN h5 (by decide) g e2 hg)
    · exact fun j r e => (H.pA j r e).ch g2 (fun g hg e2 => by
        rcases e2 with e2 | e2
        · exact H.notK H.qA r (List.mem_of_getElem? e) (by rw [← e2]; exact hg)
        · obtain ⟨xs, h5, _⟩ := H.pA j r e
          exact apartT H.bk.oN h5 (by decide) g e2 hg)
    · show (bi.N ++ RN).length = L + 3
      rw [List.length_append, hl, hm]
theorem run_bs3A (a0 a1 a2 : Option Addr) (n0 c0 n1 c1 n2 c2 : Nat) (w : World) : (Instr.buildSlice 67 3 #[(0, .slice a0 n0 c0), (1, .slice a1 n1 c1), (2, .slice a2 n2 c2)]).run Try.prog w = .ok (.slice (some ⟨w.heap.size, 0, none⟩) 3 3) (w.alloc (.cells #[.slice a0 n0 c0, .slice a1 n1 c1, .slice a2 n2 c2] 42)) := by kernel_rfl
theorem wpList_bs3A {ops : Array Oper} {rest : List Oper} {o : Oper} {a : Act} {w : World} {Q : Exit → Act → World → Prop} (x0 x1 x2 : Operand) (ho : o.op = .buildSlice 67 3 #[(0, x0), (1, x1), (2, x2)]) (a0 a1 a2 : Option Addr) (n0 c0 n1 c1 n2 c2 : Nat) (h0 : a.eval x0 = .slice a0 n0 c0) (h1 : a.eval x1 = .slice a1 n1 c1) (h2 : a.eval x2 = .slice a2 n2 c2) (hw : Region.wanted o (yielded ops a.tmps) = true)
    (h : ∀ X W, Hid (Below w.heap.size w W ∧ ∀ j u, ([.slice a0 n0 c0, .slice a1 n1 c1, .slice a2 n2 c2] : List Value)[j]? = some u → W.cell? ⟨X, j, none⟩ = some u) → wpList Try.prog ops Q rest (a.put o.dst (.slice (some ⟨X, 0, none⟩) 3 3)) W) : wpList Try.prog ops Q (o :: rest) a w := by
  refine wpList_step fun K hK => ?_
  rw [if_pos hw]
  unfold Oper.wp execOp
  simp only [ho, Sem.run_bind, List.map_toArray, List.map_cons, List.map_nil, h0, h1, h2, run_bs3A _ _ _ _ _ _ _ _ _ w, Result.andThen_ok]
  refine hK _ _ (h _ _ ⟨(Below.refl _ _).alloc (Nat.le_refl _) _, fun j u hu => ?_⟩)
  rw [World.cell?_alloc_at _ _ _ _ rfl, ← Array.getElem?_toList]
  exact hu
theorem infoHA : ∃ i z, Try.prog.info? 42 = some i ∧ i.zero = some z ∧ i.size = 1 ∧ z.cells.size = 1 ∧ i.bytes ≤ 1000 := by
  have h : (Try.prog.info? 42).any (fun i => i.zero.any (fun z => i.size == 1 && z.cells.size == 1 && decide (i.bytes ≤ 1000))) = true := by kernel_rfl
  cases hi : Try.prog.info? 42 with
  | none => rw [hi] at h; simp at h
  | some i =>
    rw [hi] at h
    cases hz : i.zero with
    | none => rw [Option.any_some, hz] at h; simp at h
    | some z =>
      rw [Option.any_some, hz, Option.any_some] at h
      simp only [Bool.and_eq_true, beq_iff_eq, decide_eq_true_eq] at h
      exact ⟨i, z, rfl, hz, h.1.1, h.1.2, h.2⟩
theorem wpList_hdA {ops : Array Oper} {rest : List Oper} {o : Oper} {a : Act} {W : World} {Q : Exit → Act → World → Prop} (hgd : o.guard = none) (s x : Operand) (ho : o.op = .call { callee := .builtin .append, args := #[s, x], argTypes := #[67, 67] })
    {w : World} {BK : Nat} {b : BV} {OW : Nat → Prop} {L : Nat} {RI RN RA : List (Value × Nat)} {bi : BV} (H : HdS w BK b OW L RI RN RA W bi) (ba : Option Addr) (bc : Nat) (hv : bi.hA = .slice ba L bc) (hl : bi.A.length = L) (hs : a.eval s = .slice ba L bc) (X : Nat) (hm : RA.length = 3) (hx : a.eval x = .slice (some ⟨X, 0, none⟩) 3 3) (hnew : ∀ j u, (RA.map (fun r => r.1))[j]? = some u → W.cell? ⟨X, j, none⟩ = some u) (h1 : ∀ r, r ∈ RA → r.1.oneCell' = true) (hb : L ≤ 1000000)
    (h : ∀ ua uc W', W'.cell? ⟨BK, 2, none⟩ = some (.slice ba L bc) → W'.frozen? ⟨BK, 2, none⟩ = false → Hid (∃ b', HdS w BK b OW L RI RN RA (W'.setCell ⟨BK, 2, none⟩ (.slice ua (L + 3) uc)) b' ∧ b'.A.length = L + 3 ∧ b'.hI = bi.hI ∧ b'.I = bi.I ∧ b'.hN = bi.hN ∧ b'.N = bi.N) → wpList Try.prog ops Q rest (a.put o.dst (.slice ua (L + 3) uc)) W') : wpList Try.prog ops Q (o :: rest) a W := by
  obtain ⟨i0, z0, hi0, hz0, hz1, hz2, hz3⟩ := infoHA
  have ho1 := H.bk.oA
  rw [hv, hl] at ho1
  refine wpList_append_own_at W hgd s x 67 ho 0 42 i0 z0 1 i0.bytes Try.underlying67 hi0 hz0 hz1 rfl hz2 (by decide) _ L _ hs ho1 ⟨X, 0, none⟩ 3 3 (RA.map (fun r => r.1)) hx (by rw [List.length_map, hm]) (fun j u hu => by rw [Addr.add_lit, Nat.zero_add]; exact hnew j u hu) ?_ (by unfold maxLen; omega) (Nat.le_trans (Nat.mul_le_mul (show L + 3 ≤ 1000003 by omega) hz3) (by decide)) (Nat.zero_le _) ?_
  · intro u hu
    obtain ⟨r, hr, rfl⟩ := List.mem_map.1 hu
    exact h1 r hr
  · intro u W' r1 r2 _ r4
    obtain ⟨ua, uc, rfl⟩ := owns_shape r1
    have r1' : W'.ownsRow 0 42 1 (.slice ua (L + 3) uc) (L + RA.length) (bi.A.map (fun r => r.1) ++ RA.map (fun r => r.1)) := by rw [hm]; exact r1
    obtain ⟨g1, g2, g3⟩ := H.bk.longA hv hl RA H.pA (H.notK H.qA) r1' r2 r4
    have cc : Ch (fun q => (Value.slice ba L bc).ownBlock = some q) W W' := Ch.ofGrown r2
    have hbK : ¬ (Value.slice ba L bc).ownBlock = some BK := fun e => H.bk.nK BK (by rw [← hv] at e; exact .inr (.inr (.inl e))) rfl
    have hold : ∀ x, x < w.heap.size → (x = BK ∨ bi.hA.ownBlock = some x) → BB BK b x ∨ OW x := fun x hx e => by
      rcases H.nb x (e.elim .inl (fun e => .inr (.inr (.inr (.inl e))))) with k | k | k
      · exact .inl k
      · exact .inr k
      · omega
    have lt5 := H.bk.lt BK (.inl rfl)
    refine h ua uc W' (cc.cell (by rw [← hv]; exact H.bk.c2) hbK) ((cc.frozen (p := ⟨BK, 2, none⟩) lt5 hbK).trans (H.bk.fz 2)) ⟨_, ⟨g1, H.ch.trans g2 hold, ?_, H.lt, H.ow, ?_, ?_, ?_, H.qI, H.qN, H.qA⟩, ?_, rfl, rfl, rfl, rfl⟩
    · intro q hq
      have size := H.ch.size
      rcases hq with e | e | e | e | ⟨r, hr, e⟩ | ⟨r, hr, e⟩ | ⟨r, hr, e⟩
      · exact H.nb q (.inl e)
      · exact H.nb q (.inr (.inl e))
      · exact H.nb q (.inr (.inr (.inl e)))
      · rcases g3 q e with e | e
        · exact H.nb q (.inr (.inr (.inr (.inl e))))
        · exact .inr (.inr (Nat.le_trans size e))
      · exact H.nb q (.inr (.inr (.inr (.inr (.inl ⟨r, hr, e⟩)))))
      · exact H.nb q (.inr (.inr (.inr (.inr (.inr (.inl ⟨r, hr, e⟩))))))
      · rcases List.mem_append.1 hr with hr | hr
        · exact H.nb q (.inr (.inr (.inr (.inr (.inr (.inr ⟨r, hr, e⟩))))))
        · exact .inr (H.qA r hr q e)
    · exact fun j r e => (H.pI j r e).ch g2 (fun g hg e2 => by
        rcases e2 with e2 | e2
        · exact H.notK H.qI r (List.mem_of_getElem? e) (by rw [← e2]; exact hg)
        · obtain ⟨xs, h5, _⟩ := H.pI j r e
          exact apartT H.bk.oA h5 (by decide) g e2 hg)
    · exact fun j r e => (H.pN j r e).ch g2 (fun g hg e2 => by
        rcases e2 with e2 | e2
        · exact H.notK H.qN r (List.mem_of_getElem? e) (by rw [← e2]; exact hg)
        · obtain ⟨xs, h5, _⟩ := H.pN j r e
          exact apartT H.bk.oA h5 (by decide) g e2 hg)
    · exact fun j r e => (H.pA j r e).ch g2 (fun g hg e2 => by
        rcases e2 with e2 | e2
        · exact H.notK H.qA r (List.mem_of_getElem? e) (by rw [← e2]; exact hg)
        · obtain ⟨xs, h5, _⟩ := H.pA j r e
          exact apartT H.bk.oA h5 (by decide) g e2 hg)
    · show (bi.A ++ RA).length = L + 3
      rw [List.length_append, hl, hm]
end No
end Go.Proofs.Ytnpipngiehohgaa
