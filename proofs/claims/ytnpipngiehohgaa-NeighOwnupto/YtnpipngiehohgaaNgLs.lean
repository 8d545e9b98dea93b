/-
  Layer 15: lists of keys, of neighbours, of asks in memory.
-/
import Derived.Test.YtnpipngiehohgaaNgRg
import Derived.Maps.AppendAt
namespace Go.Proofs.Ytnpipngiehohgaa
open Go.RowKit Go.Maps

def kcs (L : List KV) : List Value := L.flatMap fun r => (kC r).toList
theorem kC_len (r : KV) : (kC r).toList.length = 18 := rfl
theorem kcs_nil : kcs [] = [] := rfl
theorem kcs_app (L K : List KV) : kcs (L ++ K) = kcs L ++ kcs K := by simp [kcs]
theorem kcs_one (r : KV) : kcs [r] = (kC r).toList := by simp [kcs]
theorem kcs_cons (r : KV) (L : List KV) : kcs (r :: L) = (kC r).toList ++ kcs L := by simp [kcs]
theorem kcs_len (L : List KV) : (kcs L).length = L.length * 18 := by
  induction L with
  | nil => rfl
  | cons r L ih => rw [kcs_cons, List.length_append, ih, kC_len]; simp; omega
theorem kcs_get (L : List KV) (i : Nat) (r : KV) (h : L[i]? = some r) (j : Nat) (hj : j < 18) : (kcs L)[i * 18 + j]? = (kC r).toList[j]? := by
  induction L generalizing i with
  | nil => simp at h
  | cons s L ih =>
    rw [kcs_cons]
    cases i with
    | zero =>
      simp only [List.getElem?_cons_zero, Option.some.injEq] at h
      subst h
      rw [Nat.zero_mul, Nat.zero_add, List.getElem?_append_left (by rw [kC_len]; exact hj)]
    | succ i =>
      simp only [List.getElem?_cons_succ] at h
      rw [List.getElem?_append_right (by rw [kC_len]; omega), kC_len, show (i + 1) * 18 + j - 18 = i * 18 + j by omega]
      exact ih i h
theorem kC_one (r : KV) : ∀ u ∈ (kC r).toList, u.oneCell' = true := by simp [kC, Value.oneCell']
def KL (w : World) (base : Nat) (v : Value) (L : List KV) : Prop := w.ownsRow base 98 18 v L.length (kcs L)
theorem KL.nil (w : World) (base : Nat) : KL w base (.slice none 0 0) [] := World.ownsRow_nil _ _ _ _
theorem KL.ch {S : Nat → Prop} {a b : World} {base : Nat} {v : Value} {L : List KV} (h : KL a base v L) (k : Ch S a b) (hS : ∀ g, v.ownBlock = some g → ¬ S g) : KL b base v L := k.owns h hS
theorem KL.below {a b : World} {base : Nat} {v : Value} {L : List KV} (h : KL a base v L) (k : Below a.heap.size a b) : KL b base v L := h.ch (Ch.ofBelow (S := fun _ => False) k) (fun _ _ => id)
theorem KL.at {w : World} {base : Nat} {v : Value} {L : List KV} (h : KL w base v L) (i : Nat) (r : KV) (hr : L[i]? = some r) : ∃ g cap, v = .slice (some ⟨g, 0, none⟩) L.length cap ∧ base ≤ g ∧ g < w.heap.size ∧ w.rangeAt g (i * 18) (kC r).toList := by
  have hi := (List.getElem?_eq_some_iff.1 hr).1
  rcases h.2 with ⟨rfl, h0⟩ | ⟨g, cap, cur, rfl, hb, hg, hnc, hcm, hcs, ht⟩
  · omega
  · refine ⟨g, cap, rfl, hb, (Array.getElem?_eq_some_iff.1 hg).1, fun j u hj => ?_⟩
    have hj' : j < 18 := by have := (List.getElem?_eq_some_iff.1 hj).1; rwa [kC_len] at this
    have hc := h.cells rfl (i * 18 + j) u (by rw [kcs_get L i r hr j hj']; exact hj)
    rwa [Addr.add_lit, Nat.zero_add] at hc
theorem run_bs1k (r : KV) (w : World) : (Instr.buildSlice 111 1 #[(0, .agg (kC r))]).run Try.prog w = .ok (.slice (some ⟨w.heap.size, 0, none⟩) 1 1) (w.alloc (.cells (kC r) 98)) := by kernel_rfl
theorem wpList_bs1k {ops : Array Oper} {rest : List Oper} {o : Oper} {a : Act} {w : World} {Q : Exit → Act → World → Prop} (x : Operand) (ho : o.op = .buildSlice 111 1 #[(0, x)]) (r : KV) (hx : a.eval x = .agg (kC r)) (hw : Region.wanted o (yielded ops a.tmps) = true)
    (h : wpList Try.prog ops Q rest (a.put o.dst (.slice (some ⟨w.heap.size, 0, none⟩) 1 1)) (w.alloc (.cells (kC r) 98))) : wpList Try.prog ops Q (o :: rest) a w := by
  refine wpList_step fun K hK => ?_
  rw [if_pos hw]
  unfold Oper.wp execOp
  simp only [ho, Sem.run_bind, List.map_toArray, List.map_cons, List.map_nil, hx, run_bs1k r w, Result.andThen_ok]
  exact hK _ _ h
theorem Try.infoK : ∃ i z, Try.prog.info? 98 = some i ∧ i.zero = some z ∧ i.size = 18 ∧ z.cells.size = 18 ∧ i.bytes ≤ 1000 := by
  have h : (Try.prog.info? 98).any (fun i => i.zero.any (fun z => i.size == 18 && z.cells.size == 18 && decide (i.bytes ≤ 1000))) = true := by kernel_rfl
  cases hi : Try.prog.info? 98 with
  | none => rw [hi] at h; simp at h
  | some i =>
    rw [hi] at h
    cases hz : i.zero with
    | none => rw [Option.any_some, hz] at h; simp at h
    | some z =>
      rw [Option.any_some, hz, Option.any_some] at h
      simp only [Bool.and_eq_true, beq_iff_eq, decide_eq_true_eq] at h
      exact ⟨i, z, rfl, hz, h.1.1, h.1.2, h.2⟩
/-- append of one route that lies in a box of its own -/
theorem wpList_app1k {ops : Array Oper} {rest : List Oper} {o : Oper} {a : Act} {w : World} {Q : Exit → Act → World → Prop} (hgd : o.guard = none) (s x : Operand) (ho : o.op = .call { callee := .builtin .append, args := #[s, x], argTypes := #[111, 111] })
    (base : Nat) (v : Value) (L : List KV) (hs : a.eval s = v) (hown : KL w base v L) (B : Nat) (r : KV) (hx : a.eval x = .slice (some ⟨B, 0, none⟩) 1 1) (hB : KeyAt w B r) (hL : L.length ≤ 100000) (hbase : base ≤ w.heap.size)
    (h : ∀ v' w', KL w' base v' (L ++ [r]) → w.grownBy w' v.ownBlock → (v'.ownBlock = v.ownBlock ∨ v'.ownBlock = some w.heap.size) → wpList Try.prog ops Q rest (a.put o.dst v') w') : wpList Try.prog ops Q (o :: rest) a w := by
  obtain ⟨i, z, hi, hz0, hz1, hz2, hz3⟩ := Try.infoK
  refine wpList_append_own_at w hgd s x 111 ho base 98 i z 18 i.bytes Try.underlying111 hi hz0 hz1 rfl hz2 (by decide) v L.length (kcs L) hs hown ⟨B, 0, none⟩ 1 1 (kC r).toList hx (by rw [kC_len]) ?_ (kC_one r) (by unfold maxLen; omega) ?_ hbase ?_
  · intro j u hj
    rw [Addr.add_lit, Nat.zero_add, hB.cell j]
    simpa using hj
  · calc (L.length + 1) * i.bytes ≤ 100001 * 1000 := Nat.mul_le_mul (by omega) hz3
      _ ≤ _ := by decide
  · intro v' w' h1 h2 _ h4
    refine h v' w' ?_ h2 h4
    show w'.ownsRow base 98 18 v' (L ++ [r]).length (kcs (L ++ [r]))
    rw [kcs_app, kcs_one, List.length_append]
    exact h1
theorem KL.form {w : World} {base : Nat} {v : Value} {L : List KV} (h : KL w base v L) : ∃ va vc, v = .slice va L.length vc := by
  rcases h.2 with ⟨rfl, h0⟩ | ⟨g, cap, cur, rfl, _⟩
  · exact ⟨none, 0, by rw [h0]⟩
  · exact ⟨_, _, rfl⟩
theorem KL.cells {w : World} {base : Nat} {v : Value} {L : List KV} (h : KL w base v L) : ∀ g, v.ownBlock = some g → base ≤ g ∧ g < w.heap.size ∧ ∃ c, w.heap[g]? = some (.cells c 98 (0, 0)) := by
  intro g hg
  rcases h.2 with ⟨rfl, _⟩ | ⟨g', cap, cur, rfl, hb, hh, _⟩
  · simp [Value.ownBlock] at hg
  · simp [Value.ownBlock] at hg; subst hg; exact ⟨hb, (Array.getElem?_eq_some_iff.1 hh).1, cur, hh⟩
theorem KL.mono {w : World} {b b' : Nat} {v : Value} {L : List KV} (h : KL w b v L) (hb : b' ≤ b) : KL w b' v L := by
  refine ⟨h.1, ?_⟩
  rcases h.2 with h2 | ⟨g, cap, cur, rfl, hg, r⟩
  · exact .inl h2
  · exact .inr ⟨g, cap, cur, rfl, Nat.le_trans hb hg, r⟩
theorem KL.of_block {w w' : World} {base : Nat} {v : Value} {L : List KV} (h : KL w base v L) (k : ∀ g o, v.ownBlock = some g → w.heap[g]? = some o → w'.heap[g]? = some o) : KL w' base v L := by
  refine ⟨h.1, ?_⟩
  rcases h.2 with hn | ⟨g, cap, cur, rfl, hb, hgg, rest⟩
  · exact .inl hn
  · exact .inr ⟨g, cap, cur, rfl, hb, k g _ rfl hgg, rest⟩
def ncs (L : List NB) : List Value := L.flatMap fun r => (nbC r).toList
theorem nC_len (r : NB) : (nbC r).toList.length = 28 := rfl
theorem ncs_nil : ncs [] = [] := rfl
theorem ncs_app (L K : List NB) : ncs (L ++ K) = ncs L ++ ncs K := by simp [ncs]
theorem ncs_one (r : NB) : ncs [r] = (nbC r).toList := by simp [ncs]
theorem ncs_cons (r : NB) (L : List NB) : ncs (r :: L) = (nbC r).toList ++ ncs L := by simp [ncs]
theorem ncs_len (L : List NB) : (ncs L).length = L.length * 28 := by
  induction L with
  | nil => rfl
  | cons r L ih => rw [ncs_cons, List.length_append, ih, nC_len]; simp; omega
theorem ncs_get (L : List NB) (i : Nat) (r : NB) (h : L[i]? = some r) (j : Nat) (hj : j < 28) : (ncs L)[i * 28 + j]? = (nbC r).toList[j]? := by
  induction L generalizing i with
  | nil => simp at h
  | cons s L ih =>
    rw [ncs_cons]
    cases i with
    | zero =>
      simp only [List.getElem?_cons_zero, Option.some.injEq] at h
      subst h
      rw [Nat.zero_mul, Nat.zero_add, List.getElem?_append_left (by rw [nC_len]; exact hj)]
    | succ i =>
      simp only [List.getElem?_cons_succ] at h
      rw [List.getElem?_append_right (by rw [nC_len]; omega), nC_len, show (i + 1) * 28 + j - 28 = i * 28 + j by omega]
      exact ih i h
theorem nC_one (r : NB) : ∀ u ∈ (nbC r).toList, u.oneCell' = true := by simp [nbC, Value.oneCell']
def NL (w : World) (base : Nat) (v : Value) (L : List NB) : Prop := w.ownsRow base 48 28 v L.length (ncs L)
theorem NL.nil (w : World) (base : Nat) : NL w base (.slice none 0 0) [] := World.ownsRow_nil _ _ _ _
theorem NL.ch {S : Nat → Prop} {a b : World} {base : Nat} {v : Value} {L : List NB} (h : NL a base v L) (k : Ch S a b) (hS : ∀ g, v.ownBlock = some g → ¬ S g) : NL b base v L := k.owns h hS
theorem NL.below {a b : World} {base : Nat} {v : Value} {L : List NB} (h : NL a base v L) (k : Below a.heap.size a b) : NL b base v L := h.ch (Ch.ofBelow (S := fun _ => False) k) (fun _ _ => id)
theorem NL.at {w : World} {base : Nat} {v : Value} {L : List NB} (h : NL w base v L) (i : Nat) (r : NB) (hr : L[i]? = some r) : ∃ g cap, v = .slice (some ⟨g, 0, none⟩) L.length cap ∧ base ≤ g ∧ g < w.heap.size ∧ w.rangeAt g (i * 28) (nbC r).toList := by
  have hi := (List.getElem?_eq_some_iff.1 hr).1
  rcases h.2 with ⟨rfl, h0⟩ | ⟨g, cap, cur, rfl, hb, hg, hnc, hcm, hcs, ht⟩
  · omega
  · refine ⟨g, cap, rfl, hb, (Array.getElem?_eq_some_iff.1 hg).1, fun j u hj => ?_⟩
    have hj' : j < 28 := by have := (List.getElem?_eq_some_iff.1 hj).1; rwa [nC_len] at this
    have hc := h.cells rfl (i * 28 + j) u (by rw [ncs_get L i r hr j hj']; exact hj)
    rwa [Addr.add_lit, Nat.zero_add] at hc
theorem run_bs1n (r : NB) (w : World) : (Instr.buildSlice 45 1 #[(0, .agg (nbC r))]).run Try.prog w = .ok (.slice (some ⟨w.heap.size, 0, none⟩) 1 1) (w.alloc (.cells (nbC r) 48)) := by kernel_rfl
theorem wpList_bs1n {ops : Array Oper} {rest : List Oper} {o : Oper} {a : Act} {w : World} {Q : Exit → Act → World → Prop} (x : Operand) (ho : o.op = .buildSlice 45 1 #[(0, x)]) (r : NB) (hx : a.eval x = .agg (nbC r)) (hw : Region.wanted o (yielded ops a.tmps) = true)
    (h : wpList Try.prog ops Q rest (a.put o.dst (.slice (some ⟨w.heap.size, 0, none⟩) 1 1)) (w.alloc (.cells (nbC r) 48))) : wpList Try.prog ops Q (o :: rest) a w := by
  refine wpList_step fun K hK => ?_
  rw [if_pos hw]
  unfold Oper.wp execOp
  simp only [ho, Sem.run_bind, List.map_toArray, List.map_cons, List.map_nil, hx, run_bs1n r w, Result.andThen_ok]
  exact hK _ _ h
theorem Try.infoN : ∃ i z, Try.prog.info? 48 = some i ∧ i.zero = some z ∧ i.size = 28 ∧ z.cells.size = 28 ∧ i.bytes ≤ 1000 := by
  have h : (Try.prog.info? 48).any (fun i => i.zero.any (fun z => i.size == 28 && z.cells.size == 28 && decide (i.bytes ≤ 1000))) = true := by kernel_rfl
  cases hi : Try.prog.info? 48 with
  | none => rw [hi] at h; simp at h
  | some i =>
    rw [hi] at h
    cases hz : i.zero with
    | none => rw [Option.any_some, hz] at h; simp at h
    | some z =>
      rw [Option.any_some, hz, Option.any_some] at h
      simp only [Bool.and_eq_true, beq_iff_eq, decide_eq_true_eq] at h
      exact ⟨i, z, rfl, hz, h.1.1, h.1.2, h.2⟩
/-- append of one route that lies in a box of its own -/
theorem wpList_app1n {ops : Array Oper} {rest : List Oper} {o : Oper} {a : Act} {w : World} {Q : Exit → Act → World → Prop} (hgd : o.guard = none) (s x : Operand) (ho : o.op = .call { callee := .builtin .append, args := #[s, x], argTypes := #[45, 45] })
    (base : Nat) (v : Value) (L : List NB) (hs : a.eval s = v) (hown : NL w base v L) (B : Nat) (r : NB) (hx : a.eval x = .slice (some ⟨B, 0, none⟩) 1 1) (hB : NbrAt w B r) (hL : L.length ≤ 100000) (hbase : base ≤ w.heap.size)
    (h : ∀ v' w', NL w' base v' (L ++ [r]) → w.grownBy w' v.ownBlock → (v'.ownBlock = v.ownBlock ∨ v'.ownBlock = some w.heap.size) → wpList Try.prog ops Q rest (a.put o.dst v') w') : wpList Try.prog ops Q (o :: rest) a w := by
  obtain ⟨i, z, hi, hz0, hz1, hz2, hz3⟩ := Try.infoN
  refine wpList_append_own_at w hgd s x 45 ho base 48 i z 28 i.bytes Try.underlying45 hi hz0 hz1 rfl hz2 (by decide) v L.length (ncs L) hs hown ⟨B, 0, none⟩ 1 1 (nbC r).toList hx (by rw [nC_len]) ?_ (nC_one r) (by unfold maxLen; omega) ?_ hbase ?_
  · intro j u hj
    rw [Addr.add_lit, Nat.zero_add, hB.cell j]
    simpa using hj
  · calc (L.length + 1) * i.bytes ≤ 100001 * 1000 := Nat.mul_le_mul (by omega) hz3
      _ ≤ _ := by decide
  · intro v' w' h1 h2 _ h4
    refine h v' w' ?_ h2 h4
    show w'.ownsRow base 48 28 v' (L ++ [r]).length (ncs (L ++ [r]))
    rw [ncs_app, ncs_one, List.length_append]
    exact h1
theorem NL.form {w : World} {base : Nat} {v : Value} {L : List NB} (h : NL w base v L) : ∃ va vc, v = .slice va L.length vc := by
  rcases h.2 with ⟨rfl, h0⟩ | ⟨g, cap, cur, rfl, _⟩
  · exact ⟨none, 0, by rw [h0]⟩
  · exact ⟨_, _, rfl⟩
theorem NL.cells {w : World} {base : Nat} {v : Value} {L : List NB} (h : NL w base v L) : ∀ g, v.ownBlock = some g → base ≤ g ∧ g < w.heap.size ∧ ∃ c, w.heap[g]? = some (.cells c 48 (0, 0)) := by
  intro g hg
  rcases h.2 with ⟨rfl, _⟩ | ⟨g', cap, cur, rfl, hb, hh, _⟩
  · simp [Value.ownBlock] at hg
  · simp [Value.ownBlock] at hg; subst hg; exact ⟨hb, (Array.getElem?_eq_some_iff.1 hh).1, cur, hh⟩
theorem NL.mono {w : World} {b b' : Nat} {v : Value} {L : List NB} (h : NL w b v L) (hb : b' ≤ b) : NL w b' v L := by
  refine ⟨h.1, ?_⟩
  rcases h.2 with h2 | ⟨g, cap, cur, rfl, hg, r⟩
  · exact .inl h2
  · exact .inr ⟨g, cap, cur, rfl, Nat.le_trans hb hg, r⟩
theorem NL.of_block {w w' : World} {base : Nat} {v : Value} {L : List NB} (h : NL w base v L) (k : ∀ g o, v.ownBlock = some g → w.heap[g]? = some o → w'.heap[g]? = some o) : NL w' base v L := by
  refine ⟨h.1, ?_⟩
  rcases h.2 with hn | ⟨g, cap, cur, rfl, hb, hgg, rest⟩
  · exact .inl hn
  · exact .inr ⟨g, cap, cur, rfl, hb, k g _ rfl hgg, rest⟩
def acs (L : List AK) : List Value := L.flatMap fun r => (akC r).toList
theorem aC_len (r : AK) : (akC r).toList.length = 25 := rfl
theorem acs_nil : acs [] = [] := rfl
theorem acs_app (L K : List AK) : acs (L ++ K) = acs L ++ acs K := by simp [acs]
theorem acs_one (r : AK) : acs [r] = (akC r).toList := by simp [acs]
theorem acs_cons (r : AK) (L : List AK) : acs (r :: L) = (akC r).toList ++ acs L := by simp [acs]
theorem acs_len (L : List AK) : (acs L).length = L.length * 25 := by
  induction L with
  | nil => rfl
  | cons r L ih => rw [acs_cons, List.length_append, ih, aC_len]; simp; omega
theorem acs_get (L : List AK) (i : Nat) (r : AK) (h : L[i]? = some r) (j : Nat) (hj : j < 25) : (acs L)[i * 25 + j]? = (akC r).toList[j]? := by
  induction L generalizing i with
  | nil => simp at h
  | cons s L ih =>
    rw [acs_cons]
    cases i with
    | zero =>
      simp only [List.getElem?_cons_zero, Option.some.injEq] at h
      subst h
      rw [Nat.zero_mul, Nat.zero_add, List.getElem?_append_left (by rw [aC_len]; exact hj)]
    | succ i =>
      simp only [List.getElem?_cons_succ] at h
      rw [List.getElem?_append_right (by rw [aC_len]; omega), aC_len, show (i + 1) * 25 + j - 25 = i * 25 + j by omega]
      exact ih i h
theorem aC_one (r : AK) : ∀ u ∈ (akC r).toList, u.oneCell' = true := by simp [akC, Value.oneCell']
def AL (w : World) (base : Nat) (v : Value) (L : List AK) : Prop := w.ownsRow base 114 25 v L.length (acs L)
theorem AL.nil (w : World) (base : Nat) : AL w base (.slice none 0 0) [] := World.ownsRow_nil _ _ _ _
theorem AL.ch {S : Nat → Prop} {a b : World} {base : Nat} {v : Value} {L : List AK} (h : AL a base v L) (k : Ch S a b) (hS : ∀ g, v.ownBlock = some g → ¬ S g) : AL b base v L := k.owns h hS
theorem AL.below {a b : World} {base : Nat} {v : Value} {L : List AK} (h : AL a base v L) (k : Below a.heap.size a b) : AL b base v L := h.ch (Ch.ofBelow (S := fun _ => False) k) (fun _ _ => id)
theorem AL.at {w : World} {base : Nat} {v : Value} {L : List AK} (h : AL w base v L) (i : Nat) (r : AK) (hr : L[i]? = some r) : ∃ g cap, v = .slice (some ⟨g, 0, none⟩) L.length cap ∧ base ≤ g ∧ g < w.heap.size ∧ w.rangeAt g (i * 25) (akC r).toList := by
  have hi := (List.getElem?_eq_some_iff.1 hr).1
  rcases h.2 with ⟨rfl, h0⟩ | ⟨g, cap, cur, rfl, hb, hg, hnc, hcm, hcs, ht⟩
  · omega
  · refine ⟨g, cap, rfl, hb, (Array.getElem?_eq_some_iff.1 hg).1, fun j u hj => ?_⟩
    have hj' : j < 25 := by have := (List.getElem?_eq_some_iff.1 hj).1; rwa [aC_len] at this
    have hc := h.cells rfl (i * 25 + j) u (by rw [acs_get L i r hr j hj']; exact hj)
    rwa [Addr.add_lit, Nat.zero_add] at hc
theorem run_bs1a (r : AK) (w : World) : (Instr.buildSlice 42 1 #[(0, .agg (akC r))]).run Try.prog w = .ok (.slice (some ⟨w.heap.size, 0, none⟩) 1 1) (w.alloc (.cells (akC r) 114)) := by kernel_rfl
theorem wpList_bs1a {ops : Array Oper} {rest : List Oper} {o : Oper} {a : Act} {w : World} {Q : Exit → Act → World → Prop} (x : Operand) (ho : o.op = .buildSlice 42 1 #[(0, x)]) (r : AK) (hx : a.eval x = .agg (akC r)) (hw : Region.wanted o (yielded ops a.tmps) = true)
    (h : wpList Try.prog ops Q rest (a.put o.dst (.slice (some ⟨w.heap.size, 0, none⟩) 1 1)) (w.alloc (.cells (akC r) 114))) : wpList Try.prog ops Q (o :: rest) a w := by
  refine wpList_step fun K hK => ?_
  rw [if_pos hw]
  unfold Oper.wp execOp
  simp only [ho, Sem.run_bind, List.map_toArray, List.map_cons, List.map_nil, hx, run_bs1a r w, Result.andThen_ok]
  exact hK _ _ h
theorem Try.infoA : ∃ i z, Try.prog.info? 114 = some i ∧ i.zero = some z ∧ i.size = 25 ∧ z.cells.size = 25 ∧ i.bytes ≤ 1000 := by
  have h : (Try.prog.info? 114).any (fun i => i.zero.any (fun z => i.size == 25 && z.cells.size == 25 && decide (i.bytes ≤ 1000))) = true := by kernel_rfl
  cases hi : Try.prog.info? 114 with
  | none => rw [hi] at h; simp at h
  | some i =>
    rw [hi] at h
    cases hz : i.zero with
    | none => rw [Option.any_some, hz] at h; simp at h
    | some z =>
      rw [Option.any_some, hz, Option.any_some] at h
      simp only [Bool.and_eq_true, beq_iff_eq, decide_eq_true_eq] at h
      exact ⟨i, z, rfl, hz, h.1.1, h.1.2, h.2⟩
/-- append of one route that lies in a box of its own -/
theorem wpList_app1a {ops : Array Oper} {rest : List Oper} {o : Oper} {a : Act} {w : World} {Q : Exit → Act → World → Prop} (hgd : o.guard = none) (s x : Operand) (ho : o.op = .call { callee := .builtin .append, args := #[s, x], argTypes := #[42, 42] })
    (base : Nat) (v : Value) (L : List AK) (hs : a.eval s = v) (hown : AL w base v L) (B : Nat) (r : AK) (hx : a.eval x = .slice (some ⟨B, 0, none⟩) 1 1) (hB : AskAt w B r) (hL : L.length ≤ 100000) (hbase : base ≤ w.heap.size)
    (h : ∀ v' w', AL w' base v' (L ++ [r]) → w.grownBy w' v.ownBlock → (v'.ownBlock = v.ownBlock ∨ v'.ownBlock = some w.heap.size) → wpList Try.prog ops Q rest (a.put o.dst v') w') : wpList Try.prog ops Q (o :: rest) a w := by
  obtain ⟨i, z, hi, hz0, hz1, hz2, hz3⟩ := Try.infoA
  refine wpList_append_own_at w hgd s x 42 ho base 114 i z 25 i.bytes Try.underlying42 hi hz0 hz1 rfl hz2 (by decide) v L.length (acs L) hs hown ⟨B, 0, none⟩ 1 1 (akC r).toList hx (by rw [aC_len]) ?_ (aC_one r) (by unfold maxLen; omega) ?_ hbase ?_
  · intro j u hj
    rw [Addr.add_lit, Nat.zero_add, hB.cell j]
    simpa using hj
  · calc (L.length + 1) * i.bytes ≤ 100001 * 1000 := Nat.mul_le_mul (by omega) hz3
      _ ≤ _ := by decide
  · intro v' w' h1 h2 _ h4
    refine h v' w' ?_ h2 h4
    show w'.ownsRow base 114 25 v' (L ++ [r]).length (acs (L ++ [r]))
    rw [acs_app, acs_one, List.length_append]
    exact h1
theorem AL.form {w : World} {base : Nat} {v : Value} {L : List AK} (h : AL w base v L) : ∃ va vc, v = .slice va L.length vc := by
  rcases h.2 with ⟨rfl, h0⟩ | ⟨g, cap, cur, rfl, _⟩
  · exact ⟨none, 0, by rw [h0]⟩
  · exact ⟨_, _, rfl⟩
theorem AL.cells {w : World} {base : Nat} {v : Value} {L : List AK} (h : AL w base v L) : ∀ g, v.ownBlock = some g → base ≤ g ∧ g < w.heap.size ∧ ∃ c, w.heap[g]? = some (.cells c 114 (0, 0)) := by
  intro g hg
  rcases h.2 with ⟨rfl, _⟩ | ⟨g', cap, cur, rfl, hb, hh, _⟩
  · simp [Value.ownBlock] at hg
  · simp [Value.ownBlock] at hg; subst hg; exact ⟨hb, (Array.getElem?_eq_some_iff.1 hh).1, cur, hh⟩
theorem AL.mono {w : World} {b b' : Nat} {v : Value} {L : List AK} (h : AL w b v L) (hb : b' ≤ b) : AL w b' v L := by
  refine ⟨h.1, ?_⟩
  rcases h.2 with h2 | ⟨g, cap, cur, rfl, hg, r⟩
  · exact .inl h2
  · exact .inr ⟨g, cap, cur, rfl, Nat.le_trans hb hg, r⟩
theorem AL.of_block {w w' : World} {base : Nat} {v : Value} {L : List AK} (h : AL w base v L) (k : ∀ g o, v.ownBlock = some g → w.heap[g]? = some o → w'.heap[g]? = some o) : AL w' base v L := by
  refine ⟨h.1, ?_⟩
  rcases h.2 with hn | ⟨g, cap, cur, rfl, hb, hgg, rest⟩
  · exact .inl hn
  · exact .inr ⟨g, cap, cur, rfl, hb, k g _ rfl hgg, rest⟩
end Go.Proofs.Ytnpipngiehohgaa
