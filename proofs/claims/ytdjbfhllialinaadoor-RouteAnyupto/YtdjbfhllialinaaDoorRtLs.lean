/-
  Layer 14: lists of routes in memory.
-/
import Derived.Test.YtdjbfhllialinaaDoorRtCo
import Derived.Maps.AppendAt
namespace Go.Proofs.YtdjbfhllialinaaDoor
open Go.RowKit Go.Maps

def rcs (L : List RV) : List Value := L.flatMap fun r => (rtC r).toList
theorem rtC_len (r : RV) : (rtC r).toList.length = 36 := rfl
theorem rcs_nil : rcs [] = [] := rfl
theorem rcs_app (L K : List RV) : rcs (L ++ K) = rcs L ++ rcs K := by simp [rcs]
theorem rcs_one (r : RV) : rcs [r] = (rtC r).toList := by simp [rcs]
theorem rcs_cons (r : RV) (L : List RV) : rcs (r :: L) = (rtC r).toList ++ rcs L := by simp [rcs]
theorem rcs_len (L : List RV) : (rcs L).length = L.length * 36 := by
  induction L with
  | nil => rfl
  | cons r L ih => rw [rcs_cons, List.length_append, ih, rtC_len]; simp; omega
theorem rcs_get (L : List RV) (i : Nat) (r : RV) (h : L[i]? = some r) (j : Nat) (hj : j < 36) : (rcs L)[i * 36 + j]? = (rtC r).toList[j]? := by
  induction L generalizing i with
  | nil => simp at h
  | cons s L ih =>
    rw [rcs_cons]
    cases i with
    | zero =>
      simp only [List.getElem?_cons_zero, Option.some.injEq] at h
      subst h
      rw [Nat.zero_mul, Nat.zero_add, List.getElem?_append_left (by rw [rtC_len]; exact hj)]
    | succ i =>
      simp only [List.getElem?_cons_succ] at h
      rw [List.getElem?_append_right (by rw [rtC_len]; omega), rtC_len, show (i + 1) * 36 + j - 36 = i * 36 + j by omega]
      exact ih i h
theorem rtC_one (r : RV) : ∀ u ∈ (rtC r).toList, u.oneCell' = true := by simp [rtC, Value.oneCell']
def RL (w : World) (base : Nat) (v : Value) (L : List RV) : Prop := w.ownsRow base 29 36 v L.length (rcs L)
theorem RL.nil (w : World) (base : Nat) : RL w base (.slice none 0 0) [] := World.ownsRow_nil _ _ _ _
theorem RL.ch {S : Nat → Prop} {a b : World} {base : Nat} {v : Value} {L : List RV} (h : RL a base v L) (k : Ch S a b) (hS : ∀ g, v.ownBlock = some g → ¬ S g) : RL b base v L := k.owns h hS
theorem RL.below {a b : World} {base : Nat} {v : Value} {L : List RV} (h : RL a base v L) (k : Below a.heap.size a b) : RL b base v L := h.ch (Ch.ofBelow (S := fun _ => False) k) (fun _ _ => id)
theorem RL.at {w : World} {base : Nat} {v : Value} {L : List RV} (h : RL w base v L) (i : Nat) (r : RV) (hr : L[i]? = some r) : ∃ g cap, v = .slice (some ⟨g, 0, none⟩) L.length cap ∧ base ≤ g ∧ g < w.heap.size ∧ w.rangeAt g (i * 36) (rtC r).toList := by
  have hi := (List.getElem?_eq_some_iff.1 hr).1
  rcases h.2 with ⟨rfl, h0⟩ | ⟨g, cap, cur, rfl, hb, hg, hnc, hcm, hcs, ht⟩
  · omega
  · refine ⟨g, cap, rfl, hb, (Array.getElem?_eq_some_iff.1 hg).1, fun j u hj => ?_⟩
    have hj' : j < 36 := by have := (List.getElem?_eq_some_iff.1 hj).1; rwa [rtC_len] at this
    have hc := h.cells rfl (i * 36 + j) u (by rw [rcs_get L i r hr j hj']; exact hj)
    rwa [Addr.add_lit, Nat.zero_add] at hc
theorem run_bs1 (r : RV) (w : World) : (Instr.buildSlice 22 1 #[(0, .agg (rtC r))]).run Tryd.prog w = .ok (.slice (some ⟨w.heap.size, 0, none⟩) 1 1) (w.alloc (.cells (rtC r) 29)) := by kernel_rfl
theorem wpList_bs1 {ops : Array Oper} {rest : List Oper} {o : Oper} {a : Act} {w : World} {Q : Exit → Act → World → Prop} (x : Operand) (ho : o.op = .buildSlice 22 1 #[(0, x)]) (r : RV) (hx : a.eval x = .agg (rtC r)) (hw : Region.wanted o (yielded ops a.tmps) = true)
    (h : wpList Tryd.prog ops Q rest (a.put o.dst (.slice (some ⟨w.heap.size, 0, none⟩) 1 1)) (w.alloc (.cells (rtC r) 29))) : wpList Tryd.prog ops Q (o :: rest) a w := by
  refine wpList_step fun K hK => ?_
  rw [if_pos hw]
  unfold Oper.wp execOp
  simp only [ho, Sem.run_bind, List.map_toArray, List.map_cons, List.map_nil, hx, run_bs1 r w, Result.andThen_ok]
  exact hK _ _ h
theorem wpListIn_bs1 {F : Fence} {n : Nat} {ops : Array Oper} {rest : List Oper} {o : Oper} {a : Act} {w : World} {Q : Exit → Act → World → Prop} (x : Operand) (ho : o.op = .buildSlice 22 1 #[(0, x)]) (r : RV) (hx : a.eval x = .agg (rtC r)) (hw : Region.wanted o (yielded ops a.tmps) = true)
    (h : wpListIn F n Tryd.prog ops Q rest (a.put o.dst (.slice (some ⟨w.heap.size, 0, none⟩) 1 1)) (w.alloc (.cells (rtC r) 29))) : wpListIn F n Tryd.prog ops Q (o :: rest) a w := by
  refine wpListIn_step fun K hK => ?_
  rw [if_pos hw]
  unfold Oper.wpIn
  refine ⟨by simp [Oper.about, ho], ?_⟩
  rw [Oper.semAt_plain F _ _ (by rw [ho]; intro c hc; cases hc)]
  unfold execOp
  simp only [ho, Sem.run_bind, List.map_toArray, List.map_cons, List.map_nil, hx, run_bs1 r w, Result.andThen_ok]
  exact hK _ _ h
theorem Tryd.infoR : ∃ i z, Tryd.prog.info? 29 = some i ∧ i.zero = some z ∧ i.size = 36 ∧ z.cells.size = 36 ∧ i.bytes ≤ 1000 := by
  have h : (Tryd.prog.info? 29).any (fun i => i.zero.any (fun z => i.size == 36 && z.cells.size == 36 && decide (i.bytes ≤ 1000))) = true := by kernel_rfl
  cases hi : Tryd.prog.info? 29 with
  | none => rw [hi] at h; simp at h
  | some i =>
    rw [hi] at h
    cases hz : i.zero with
    | none => rw [Option.any_some, hz] at h; simp at h
    | some z =>
      rw [Option.any_some, hz, Option.any_some] at h
      simp only [Bool.and_eq_true, beq_iff_eq, decide_eq_true_eq] at h
      exact ⟨i, z, rfl, hz, h.1.1, h.1.2, h.2⟩
/-- append of one route that lies in a box of its own -/
theorem wpList_app1 {ops : Array Oper} {rest : List Oper} {o : Oper} {a : Act} {w : World} {Q : Exit → Act → World → Prop} (hgd : o.guard = none) (s x : Operand) (ho : o.op = .call { callee := .builtin .append, args := #[s, x], argTypes := #[22, 22] })
    (base : Nat) (v : Value) (L : List RV) (hs : a.eval s = v) (hown : RL w base v L) (B : Nat) (r : RV) (hx : a.eval x = .slice (some ⟨B, 0, none⟩) 1 1) (hB : RteAt w B r) (hL : L.length ≤ 100000) (hbase : base ≤ w.heap.size)
    (h : ∀ v' w', RL w' base v' (L ++ [r]) → w.grownBy w' v.ownBlock → (v'.ownBlock = v.ownBlock ∨ v'.ownBlock = some w.heap.size) → wpList Tryd.prog ops Q rest (a.put o.dst v') w') : wpList Tryd.prog ops Q (o :: rest) a w := by
  obtain ⟨i, z, hi, hz0, hz1, hz2, hz3⟩ := Tryd.infoR
  refine wpList_append_own_at w hgd s x 22 ho base 29 i z 36 i.bytes Tryd.underlying22 hi hz0 hz1 rfl hz2 (by decide) v L.length (rcs L) hs hown ⟨B, 0, none⟩ 1 1 (rtC r).toList hx (by rw [rtC_len]) ?_ (rtC_one r) (by unfold maxLen; omega) ?_ hbase ?_
  · intro j u hj
    rw [Addr.add_lit, Nat.zero_add, hB.cell j]
    simpa using hj
  · calc (L.length + 1) * i.bytes ≤ 100001 * 1000 := Nat.mul_le_mul (by omega) hz3
      _ ≤ _ := by decide
  · intro v' w' h1 h2 _ h4
    refine h v' w' ?_ h2 h4
    show w'.ownsRow base 29 36 v' (L ++ [r]).length (rcs (L ++ [r]))
    rw [rcs_app, rcs_one, List.length_append]
    exact h1
theorem wpListIn_app1 {F : Fence} {n : Nat} {ops : Array Oper} {rest : List Oper} {o : Oper} {a : Act} {w : World} {Q : Exit → Act → World → Prop} (hgd : o.guard = none) (s x : Operand) (ho : o.op = .call { callee := .builtin .append, args := #[s, x], argTypes := #[22, 22] })
    (base : Nat) (v : Value) (L : List RV) (hs : a.eval s = v) (hown : RL w base v L) (B : Nat) (r : RV) (hx : a.eval x = .slice (some ⟨B, 0, none⟩) 1 1) (hB : RteAt w B r) (hL : L.length ≤ 100000) (hbase : base ≤ w.heap.size)
    (h : ∀ v' w', RL w' base v' (L ++ [r]) → w.grownBy w' v.ownBlock → wpListIn F n Tryd.prog ops Q rest (a.put o.dst v') w') : wpListIn F n Tryd.prog ops Q (o :: rest) a w := by
  obtain ⟨i, z, hi, hz0, hz1, hz2, hz3⟩ := Tryd.infoR
  refine wpListIn_append_own w hgd s x 22 ho base 29 i z 36 i.bytes Tryd.underlying22 hi hz0 hz1 rfl hz2 (by decide) v L.length (rcs L) hs hown ⟨B, 0, none⟩ 1 1 (rtC r).toList hx (by rw [rtC_len]) ?_ (rtC_one r) (by unfold maxLen; omega) ?_ hbase ?_
  · intro j u hj
    rw [Addr.add_lit, Nat.zero_add, hB.cell j]
    simpa using hj
  · calc (L.length + 1) * i.bytes ≤ 100001 * 1000 := Nat.mul_le_mul (by omega) hz3
      _ ≤ _ := by decide
  · intro v' w' h1 h2 _
    refine h v' w' ?_ h2
    show w'.ownsRow base 29 36 v' (L ++ [r]).length (rcs (L ++ [r]))
    rw [rcs_app, rcs_one, List.length_append]
    exact h1
end Go.Proofs.YtdjbfhllialinaaDoor
