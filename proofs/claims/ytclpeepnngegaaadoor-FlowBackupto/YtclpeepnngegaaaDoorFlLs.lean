/-
  Layer 17: lists of flows in memory.
-/
import Derived.Test.YtclpeepnngegaaaDoorFlOr
import Derived.Maps.AppendAt
namespace Go.Proofs.YtclpeepnngegaaaDoor
open Go.RowKit Go.Maps

def fcs (L : List FN) : List Value := L.flatMap fun r => (flC r).toList
theorem flC_len (r : FN) : (flC r).toList.length = 40 := rfl
theorem fcs_nil : fcs [] = [] := rfl
theorem fcs_app (L K : List FN) : fcs (L ++ K) = fcs L ++ fcs K := by simp [fcs]
theorem fcs_one (r : FN) : fcs [r] = (flC r).toList := by simp [fcs]
theorem fcs_cons (r : FN) (L : List FN) : fcs (r :: L) = (flC r).toList ++ fcs L := by simp [fcs]
theorem fcs_len (L : List FN) : (fcs L).length = L.length * 40 := by
  induction L with
  | nil => rfl
  | cons r L ih => rw [fcs_cons, List.length_append, ih, flC_len]; simp; omega
theorem fcs_get (L : List FN) (i : Nat) (r : FN) (h : L[i]? = some r) (j : Nat) (hj : j < 40) : (fcs L)[i * 40 + j]? = (flC r).toList[j]? := by
  induction L generalizing i with
  | nil => simp at h
  | cons s L ih =>
    rw [fcs_cons]
    cases i with
    | zero =>
      simp only [List.getElem?_cons_zero, Option.some.injEq] at h
      subst h
      rw [Nat.zero_mul, Nat.zero_add, List.getElem?_append_left (by rw [flC_len]; exact hj)]
    | succ i =>
      simp only [List.getElem?_cons_succ] at h
      rw [List.getElem?_append_right (by rw [flC_len]; omega), flC_len, show (i + 1) * 40 + j - 40 = i * 40 + j by omega]
      exact ih i h
theorem flC_one (r : FN) : ∀ u ∈ (flC r).toList, u.oneCell' = true := by simp [flC, Value.oneCell']
def FL (w : World) (base : Nat) (v : Value) (L : List FN) : Prop := w.ownsRow base 55 40 v L.length (fcs L)
theorem FL.nil (w : World) (base : Nat) : FL w base (.slice none 0 0) [] := World.ownsRow_nil _ _ _ _
theorem FL.ch {S : Nat → Prop} {a b : World} {base : Nat} {v : Value} {L : List FN} (h : FL a base v L) (k : Ch S a b) (hS : ∀ g, v.ownBlock = some g → ¬ S g) : FL b base v L := k.owns h hS
theorem FL.below {a b : World} {base : Nat} {v : Value} {L : List FN} (h : FL a base v L) (k : Below a.heap.size a b) : FL b base v L := h.ch (Ch.ofBelow (S := fun _ => False) k) (fun _ _ => id)
theorem FL.at {w : World} {base : Nat} {v : Value} {L : List FN} (h : FL w base v L) (i : Nat) (r : FN) (hr : L[i]? = some r) : ∃ g cap, v = .slice (some ⟨g, 0, none⟩) L.length cap ∧ base ≤ g ∧ g < w.heap.size ∧ w.rangeAt g (i * 40) (flC r).toList := by
  have hi := (List.getElem?_eq_some_iff.1 hr).1
  rcases h.2 with ⟨rfl, h0⟩ | ⟨g, cap, cur, rfl, hb, hg, hnc, hcm, hcs, ht⟩
  · omega
  · refine ⟨g, cap, rfl, hb, (Array.getElem?_eq_some_iff.1 hg).1, fun j u hj => ?_⟩
    have hj' : j < 40 := by have := (List.getElem?_eq_some_iff.1 hj).1; rwa [flC_len] at this
    have hc := h.cells rfl (i * 40 + j) u (by rw [fcs_get L i r hr j hj']; exact hj)
    rwa [Addr.add_lit, Nat.zero_add] at hc
theorem run_bs1f (r : FN) (w : World) : (Instr.buildSlice 49 1 #[(0, .agg (flC r))]).run Tryd.prog w = .ok (.slice (some ⟨w.heap.size, 0, none⟩) 1 1) (w.alloc (.cells (flC r) 55)) := by kernel_rfl
theorem wpList_bs1f {ops : Array Oper} {rest : List Oper} {o : Oper} {a : Act} {w : World} {Q : Exit → Act → World → Prop} (x : Operand) (ho : o.op = .buildSlice 49 1 #[(0, x)]) (r : FN) (hx : a.eval x = .agg (flC r)) (hw : Region.wanted o (yielded ops a.tmps) = true)
    (h : wpList Tryd.prog ops Q rest (a.put o.dst (.slice (some ⟨w.heap.size, 0, none⟩) 1 1)) (w.alloc (.cells (flC r) 55))) : wpList Tryd.prog ops Q (o :: rest) a w := by
  refine wpList_step fun K hK => ?_
  rw [if_pos hw]
  unfold Oper.wp execOp
  simp only [ho, Sem.run_bind, List.map_toArray, List.map_cons, List.map_nil, hx, run_bs1f r w, Result.andThen_ok]
  exact hK _ _ h
theorem Tryd.infoF : ∃ i z, Tryd.prog.info? 55 = some i ∧ i.zero = some z ∧ i.size = 40 ∧ z.cells.size = 40 ∧ i.bytes ≤ 1000 := by
  have h : (Tryd.prog.info? 55).any (fun i => i.zero.any (fun z => i.size == 40 && z.cells.size == 40 && decide (i.bytes ≤ 1000))) = true := by kernel_rfl
  cases hi : Tryd.prog.info? 55 with
  | none => rw [hi] at h; simp at h
  | some i =>
    rw [hi] at h
    cases hz : i.zero with
    | none => rw [Option.any_some, hz] at h; simp at h
    | some z =>
      rw [Option.any_some, hz, Option.any_some] at h
      simp only [Bool.and_eq_true, beq_iff_eq, decide_eq_true_eq] at h
      exact ⟨i, z, rfl, hz, h.1.1, h.1.2, h.2⟩
/-- append of one route that lies in a box of its own -/
theorem wpList_app1f {ops : Array Oper} {rest : List Oper} {o : Oper} {a : Act} {w : World} {Q : Exit → Act → World → Prop} (hgd : o.guard = none) (s x : Operand) (ho : o.op = .call { callee := .builtin .append, args := #[s, x], argTypes := #[49, 49] })
    (base : Nat) (v : Value) (L : List FN) (hs : a.eval s = v) (hown : FL w base v L) (B : Nat) (r : FN) (hx : a.eval x = .slice (some ⟨B, 0, none⟩) 1 1) (hB : FloAt w B r) (hL : L.length ≤ 100000) (hbase : base ≤ w.heap.size)
    (h : ∀ v' w', FL w' base v' (L ++ [r]) → w.grownBy w' v.ownBlock → (v'.ownBlock = v.ownBlock ∨ v'.ownBlock = some w.heap.size) → wpList Tryd.prog ops Q rest (a.put o.dst v') w') : wpList Tryd.prog ops Q (o :: rest) a w := by
  obtain ⟨i, z, hi, hz0, hz1, hz2, hz3⟩ := Tryd.infoF
  refine wpList_append_own_at w hgd s x 49 ho base 55 i z 40 i.bytes Tryd.underlying49 hi hz0 hz1 rfl hz2 (by decide) v L.length (fcs L) hs hown ⟨B, 0, none⟩ 1 1 (flC r).toList hx (by rw [flC_len]) ?_ (flC_one r) (by unfold maxLen; omega) ?_ hbase ?_
  · intro j u hj
    rw [Addr.add_lit, Nat.zero_add, hB.cell j]
    simpa using hj
  · calc (L.length + 1) * i.bytes ≤ 100001 * 1000 := Nat.mul_le_mul (by omega) hz3
      _ ≤ _ := by decide
  · intro v' w' h1 h2 _ h4
    refine h v' w' ?_ h2 h4
    show w'.ownsRow base 55 40 v' (L ++ [r]).length (fcs (L ++ [r]))
    rw [fcs_app, fcs_one, List.length_append]
    exact h1
theorem FL.form {w : World} {base : Nat} {v : Value} {L : List FN} (h : FL w base v L) : ∃ va vc, v = .slice va L.length vc := by
  rcases h.2 with ⟨rfl, h0⟩ | ⟨g, cap, cur, rfl, _⟩
  · exact ⟨none, 0, by rw [h0]⟩
  · exact ⟨_, _, rfl⟩
theorem FL.cells {w : World} {base : Nat} {v : Value} {L : List FN} (h : FL w base v L) : ∀ g, v.ownBlock = some g → base ≤ g ∧ g < w.heap.size ∧ ∃ c, w.heap[g]? = some (.cells c 55 (0, 0)) := by
  intro g hg
  rcases h.2 with ⟨rfl, _⟩ | ⟨g', cap, cur, rfl, hb, hh, _⟩
  · simp [Value.ownBlock] at hg
  · simp [Value.ownBlock] at hg; subst hg; exact ⟨hb, (Array.getElem?_eq_some_iff.1 hh).1, cur, hh⟩
theorem FL.mono {w : World} {b b' : Nat} {v : Value} {L : List FN} (h : FL w b v L) (hb : b' ≤ b) : FL w b' v L := by
  refine ⟨h.1, ?_⟩
  rcases h.2 with h2 | ⟨g, cap, cur, rfl, hg, r⟩
  · exact .inl h2
  · exact .inr ⟨g, cap, cur, rfl, Nat.le_trans hb hg, r⟩
theorem FL.of_block {w w' : World} {base : Nat} {v : Value} {L : List FN} (h : FL w base v L) (k : ∀ g o, v.ownBlock = some g → w.heap[g]? = some o → w'.heap[g]? = some o) : FL w' base v L := by
  refine ⟨h.1, ?_⟩
  rcases h.2 with hn | ⟨g, cap, cur, rfl, hb, hgg, rest⟩
  · exact .inl hn
  · exact .inr ⟨g, cap, cur, rfl, hb, k g _ rfl hgg, rest⟩
end Go.Proofs.YtclpeepnngegaaaDoor
