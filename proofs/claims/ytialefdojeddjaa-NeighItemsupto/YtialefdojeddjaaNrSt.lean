/-
  Layer 15's reference: entries, caches, lists of entries in memory.
-/
import Derived.Test.YtialefdojeddjaaNgLess
namespace Go.Proofs.Ytialefdojeddjaa
open Go.RowKit Go.Maps

/-- an entry of the reference: in numbers, and its items' slice -/
structure RE where
  n : EN
  la : Option Addr
  lc : Nat
def RE.lv (r : RE) : Value := .slice r.la r.n.ln.length r.lc
def reC (r : RE) : Array Value := #[.int .i64 r.n.k.pt, .int .i64 r.n.k.V, .int .u8 (r.n.k.x 0 : Nat), .int .u8 (r.n.k.x 1 : Nat), .int .u8 (r.n.k.x 2 : Nat), .int .u8 (r.n.k.x 3 : Nat), .int .u8 (r.n.k.x 4 : Nat), .int .u8 (r.n.k.x 5 : Nat), .int .u8 (r.n.k.x 6 : Nat), .int .u8 (r.n.k.x 7 : Nat), .int .u8 (r.n.k.x 8 : Nat), .int .u8 (r.n.k.x 9 : Nat), .int .u8 (r.n.k.x 10 : Nat), .int .u8 (r.n.k.x 11 : Nat), .int .u8 (r.n.k.x 12 : Nat), .int .u8 (r.n.k.x 13 : Nat), .int .u8 (r.n.k.x 14 : Nat), .int .u8 (r.n.k.x 15 : Nat), .int .u8 (r.n.m 0 : Nat), .int .u8 (r.n.m 1 : Nat), .int .u8 (r.n.m 2 : Nat), .int .u8 (r.n.m 3 : Nat), .int .u8 (r.n.m 4 : Nat), .int .u8 (r.n.m 5 : Nat), .int .i64 r.n.st, .int .i64 r.n.ag, .int .i64 r.n.tr, .int .i64 (r.n.ln.length : Int), .slice r.la r.n.ln.length r.lc]
/-- a cache of the reference -/
structure RC where
  c : CF
  la : Option Addr
  n : Nat
  lc : Nat
def rcC (r : RC) : Array Value := #[.int .i64 r.c.mx, .int .i64 r.c.li, .int .i64 r.c.ev, .int .i64 r.c.tr, .int .i64 r.c.fr, .slice r.la r.n r.lc]
def enz : EN := ⟨kz, mz, 0, 0, 0, []⟩
def rez : RE := ⟨enz, none, 0⟩
def rcz : RC := ⟨cz, none, 0, 0⟩
theorem Try.size_ren : (Try.prog.info? 163).map (·.size) = some 29 := by kernel_rfl
def RenAt (w : World) (O : Nat) (rv : RE) : Prop := w.heap[O]? = some (.cells (reC rv) 163 (0, 0))
section
variable {w : World} {O : Nat} {rv : RE} (k : RenAt w O rv)
include k
theorem RenAt.lt : O < w.heap.size := (Array.getElem?_eq_some_iff.1 k).1
theorem RenAt.ch {S : Nat → Prop} {w' : World} (c : Ch S w w') (hS : ¬ S O) : RenAt w' O rv := (c.block O k.lt hS).trans k
theorem RenAt.below {w' : World} (c : Below w.heap.size w w') : RenAt w' O rv := (c.block O k.lt).trans k
theorem RenAt.cell (i : Nat) : w.cell? ⟨O, i, none⟩ = (reC rv)[i]? := by unfold RenAt at k; simp [World.cell?, k]
theorem RenAt.fz (j : Nat) : w.frozen? ⟨O, j, none⟩ = false := by unfold RenAt at k; simp [World.frozen?, k]
theorem RenAt.range (o n : Nat) : w.rangeAt O o (((reC rv).extract o (o + n)).toList) := World.rangeAt_of_block k o n
end
theorem ren_new (w : World) (rv : RE) : RenAt (w.alloc (.cells (reC rv) 163)) w.heap.size rv := heap_alloc_new _ _
theorem wpList_load_ren {ops : Array Oper} {rest : List Oper} {o : Oper} {a : Act} {w : World} {Q : Exit → Act → World → Prop} (x : Operand) (ho : o.op = .load 163 x) (O : Nat) (rv : RE) (hx : a.eval x = .pointer (some ⟨O, 0, none⟩)) (hb : RenAt w O rv)
    (hw : Region.wanted o (yielded ops a.tmps) = true) (hh : wpList Try.prog ops Q rest (a.put o.dst (.agg (reC rv))) w) : wpList Try.prog ops Q (o :: rest) a w := by
  refine wpList_step fun K hK => ?_
  rw [if_pos hw]
  exact wp_load_row 163 x ho O hx _ _ _ _ hb Try.underlying163 rfl Try.size_ren (hK _ _ hh)
theorem wpList_store_ren {ops : Array Oper} {rest : List Oper} {o : Oper} {a : Act} {w : World} {Q : Exit → Act → World → Prop} (x y : Operand) (ho : o.op = .store 163 x y) (hd : o.dst = none) (O : Nat) (rv : RE) (rv' : RE) (hx : a.eval x = .pointer (some ⟨O, 0, none⟩)) (hy : a.eval y = .agg (reC rv')) (hb : RenAt w O rv)
    (hw : Region.wanted o (yielded ops a.tmps) = true) (hh : ∀ w', RenAt w' O rv' → Ch (fun q => q = O) w w' → wpList Try.prog ops Q rest a w') : wpList Try.prog ops Q (o :: rest) a w := by
  refine wpList_step fun K hK => ?_
  rw [if_pos hw]
  refine wp_store_row 163 x y ho O (reC rv') hx hy _ (reC rv) hb Try.size_ren rfl (by simp [reC, Value.oneCell']) (hK _ _ ?_)
  rw [hd]
  refine hh _ (setRow_heap w O _ _ _ _ hb) ⟨rfl, rfl, rfl, ?_, ?_⟩
  · simp [World.setRow]
  · intro k hk hne
    simp only [World.setRow]
    rw [Array.getElem?_modify, if_neg (fun e => hne e.symm)]
theorem wpList_alloc_ren {ops : Array Oper} {rest : List Oper} {o : Oper} {a : Act} {w : World} {Q : Exit → Act → World → Prop} (ho : o.op = .alloc 163) (hw : Region.wanted o (yielded ops a.tmps) = true)
    (h : wpList Try.prog ops Q rest (a.put o.dst (.pointer (some ⟨w.heap.size, 0, none⟩))) (w.alloc (.cells (reC rez) 163))) : wpList Try.prog ops Q (o :: rest) a w := by
  refine wpList_step fun K hK => ?_
  rw [if_pos hw]
  have hrun : (execOp a.eval o).run Try.prog w = .ok (.value (.pointer (some ⟨w.heap.size, 0, none⟩))) (w.alloc (.cells (reC rez) 163)) := by
    obtain ⟨dst, op, type, pos, after, guard⟩ := o
    simp only at ho
    subst ho
    simp only [execOp]
    go_simp
    rfl
  unfold Oper.wp
  rw [hrun]
  exact hK _ _ h
theorem yields_ren {ops : Array Oper} {o : Oper} {a : Act} {S : World → Prop} (x : Operand) (ho : o.op = .load 163 x) (O off : Nat) (rv : RE) (hx : a.eval x = .pointer (some ⟨O, off, none⟩)) (hw : Region.wanted o (yielded ops a.tmps) = true) (hS : ∀ w, S w → w.rangeAt O off (reC rv).toList) : YieldsIf Try.prog ops S o (.agg (reC rv)) a :=
  yieldsIf_load_mid hw 163 x ho O off hx (reC rv).toList _ hS Try.underlying163 rfl Try.size_ren
theorem wpList_mid_ren {ops : Array Oper} {rest : List Oper} {o : Oper} {a : Act} {w : World} {Q : Exit → Act → World → Prop} (x : Operand) (ho : o.op = .load 163 x) (O off : Nat) (rv : RE) (hx : a.eval x = .pointer (some ⟨O, off, none⟩)) (hb : w.rangeAt O off (reC rv).toList)
    (hw : Region.wanted o (yielded ops a.tmps) = true) (h : wpList Try.prog ops Q rest (a.put o.dst (.agg (reC rv))) w) : wpList Try.prog ops Q (o :: rest) a w := by
  refine wpList_step fun K hK => ?_
  rw [if_pos hw]
  exact wp_load_mid 163 x ho O off hx (reC rv).toList _ hb Try.underlying163 rfl Try.size_ren (hK _ _ h)
theorem results_ren {fn : Func} {p : Tmp} (h : fn.results = #[.cell p 163]) (tmps : Array Value) (w : World) (O : Nat) (rv : RE) (hp : tmps.getD p undef = .pointer (some ⟨O, 0, none⟩)) (hb : RenAt w O rv) :
    (results fn tmps).run Try.prog w = .ok (.agg (reC rv)) w :=
  results_cell_row h tmps w O _ (reC rv) _ _ hp hb Try.underlying163 rfl Try.size_ren
theorem Try.size_rch : (Try.prog.info? 87).map (·.size) = some 6 := by kernel_rfl
def RchAt (w : World) (O : Nat) (rc : RC) : Prop := w.heap[O]? = some (.cells (rcC rc) 87 (0, 0))
section
variable {w : World} {O : Nat} {rc : RC} (k : RchAt w O rc)
include k
theorem RchAt.lt : O < w.heap.size := (Array.getElem?_eq_some_iff.1 k).1
theorem RchAt.ch {S : Nat → Prop} {w' : World} (c : Ch S w w') (hS : ¬ S O) : RchAt w' O rc := (c.block O k.lt hS).trans k
theorem RchAt.below {w' : World} (c : Below w.heap.size w w') : RchAt w' O rc := (c.block O k.lt).trans k
theorem RchAt.cell (i : Nat) : w.cell? ⟨O, i, none⟩ = (rcC rc)[i]? := by unfold RchAt at k; simp [World.cell?, k]
theorem RchAt.fz (j : Nat) : w.frozen? ⟨O, j, none⟩ = false := by unfold RchAt at k; simp [World.frozen?, k]
theorem RchAt.range (o n : Nat) : w.rangeAt O o (((rcC rc).extract o (o + n)).toList) := World.rangeAt_of_block k o n
end
theorem rch_new (w : World) (rc : RC) : RchAt (w.alloc (.cells (rcC rc) 87)) w.heap.size rc := heap_alloc_new _ _
theorem wpList_load_rch {ops : Array Oper} {rest : List Oper} {o : Oper} {a : Act} {w : World} {Q : Exit → Act → World → Prop} (x : Operand) (ho : o.op = .load 87 x) (O : Nat) (rc : RC) (hx : a.eval x = .pointer (some ⟨O, 0, none⟩)) (hb : RchAt w O rc)
    (hw : Region.wanted o (yielded ops a.tmps) = true) (hh : wpList Try.prog ops Q rest (a.put o.dst (.agg (rcC rc))) w) : wpList Try.prog ops Q (o :: rest) a w := by
  refine wpList_step fun K hK => ?_
  rw [if_pos hw]
  exact wp_load_row 87 x ho O hx _ _ _ _ hb Try.underlying87 rfl Try.size_rch (hK _ _ hh)
theorem wpList_store_rch {ops : Array Oper} {rest : List Oper} {o : Oper} {a : Act} {w : World} {Q : Exit → Act → World → Prop} (x y : Operand) (ho : o.op = .store 87 x y) (hd : o.dst = none) (O : Nat) (rc : RC) (rc' : RC) (hx : a.eval x = .pointer (some ⟨O, 0, none⟩)) (hy : a.eval y = .agg (rcC rc')) (hb : RchAt w O rc)
    (hw : Region.wanted o (yielded ops a.tmps) = true) (hh : ∀ w', RchAt w' O rc' → Ch (fun q => q = O) w w' → wpList Try.prog ops Q rest a w') : wpList Try.prog ops Q (o :: rest) a w := by
  refine wpList_step fun K hK => ?_
  rw [if_pos hw]
  refine wp_store_row 87 x y ho O (rcC rc') hx hy _ (rcC rc) hb Try.size_rch rfl (by simp [rcC, Value.oneCell']) (hK _ _ ?_)
  rw [hd]
  refine hh _ (setRow_heap w O _ _ _ _ hb) ⟨rfl, rfl, rfl, ?_, ?_⟩
  · simp [World.setRow]
  · intro k hk hne
    simp only [World.setRow]
    rw [Array.getElem?_modify, if_neg (fun e => hne e.symm)]
theorem wpList_alloc_rch {ops : Array Oper} {rest : List Oper} {o : Oper} {a : Act} {w : World} {Q : Exit → Act → World → Prop} (ho : o.op = .alloc 87) (hw : Region.wanted o (yielded ops a.tmps) = true)
    (h : wpList Try.prog ops Q rest (a.put o.dst (.pointer (some ⟨w.heap.size, 0, none⟩))) (w.alloc (.cells (rcC rcz) 87))) : wpList Try.prog ops Q (o :: rest) a w := by
  refine wpList_step fun K hK => ?_
  rw [if_pos hw]
  have hrun : (execOp a.eval o).run Try.prog w = .ok (.value (.pointer (some ⟨w.heap.size, 0, none⟩))) (w.alloc (.cells (rcC rcz) 87)) := by
    obtain ⟨dst, op, type, pos, after, guard⟩ := o
    simp only at ho
    subst ho
    simp only [execOp]
    go_simp
    rfl
  unfold Oper.wp
  rw [hrun]
  exact hK _ _ h
theorem yields_rch {ops : Array Oper} {o : Oper} {a : Act} {S : World → Prop} (x : Operand) (ho : o.op = .load 87 x) (O off : Nat) (rc : RC) (hx : a.eval x = .pointer (some ⟨O, off, none⟩)) (hw : Region.wanted o (yielded ops a.tmps) = true) (hS : ∀ w, S w → w.rangeAt O off (rcC rc).toList) : YieldsIf Try.prog ops S o (.agg (rcC rc)) a :=
  yieldsIf_load_mid hw 87 x ho O off hx (rcC rc).toList _ hS Try.underlying87 rfl Try.size_rch
theorem wpList_mid_rch {ops : Array Oper} {rest : List Oper} {o : Oper} {a : Act} {w : World} {Q : Exit → Act → World → Prop} (x : Operand) (ho : o.op = .load 87 x) (O off : Nat) (rc : RC) (hx : a.eval x = .pointer (some ⟨O, off, none⟩)) (hb : w.rangeAt O off (rcC rc).toList)
    (hw : Region.wanted o (yielded ops a.tmps) = true) (h : wpList Try.prog ops Q rest (a.put o.dst (.agg (rcC rc))) w) : wpList Try.prog ops Q (o :: rest) a w := by
  refine wpList_step fun K hK => ?_
  rw [if_pos hw]
  exact wp_load_mid 87 x ho O off hx (rcC rc).toList _ hb Try.underlying87 rfl Try.size_rch (hK _ _ h)
theorem results_rch {fn : Func} {p : Tmp} (h : fn.results = #[.cell p 87]) (tmps : Array Value) (w : World) (O : Nat) (rc : RC) (hp : tmps.getD p undef = .pointer (some ⟨O, 0, none⟩)) (hb : RchAt w O rc) :
    (results fn tmps).run Try.prog w = .ok (.agg (rcC rc)) w :=
  results_cell_row h tmps w O _ (rcC rc) _ _ hp hb Try.underlying87 rfl Try.size_rch
def ecs (L : List RE) : List Value := L.flatMap fun r => (reC r).toList
theorem eC_len (r : RE) : (reC r).toList.length = 29 := rfl
theorem ecs_nil : ecs [] = [] := rfl
theorem ecs_app (L K : List RE) : ecs (L ++ K) = ecs L ++ ecs K := by simp [ecs]
theorem ecs_one (r : RE) : ecs [r] = (reC r).toList := by simp [ecs]
theorem ecs_cons (r : RE) (L : List RE) : ecs (r :: L) = (reC r).toList ++ ecs L := by simp [ecs]
theorem ecs_len (L : List RE) : (ecs L).length = L.length * 29 := by
  induction L with
  | nil => rfl
  | cons r L ih => rw [ecs_cons, List.length_append, ih, eC_len]; simp; omega
theorem ecs_get (L : List RE) (i : Nat) (r : RE) (h : L[i]? = some r) (j : Nat) (hj : j < 29) : (ecs L)[i * 29 + j]? = (reC r).toList[j]? := by
  induction L generalizing i with
  | nil => simp at h
  | cons s L ih =>
    rw [ecs_cons]
    cases i with
    | zero =>
      simp only [List.getElem?_cons_zero, Option.some.injEq] at h
      subst h
      rw [Nat.zero_mul, Nat.zero_add, List.getElem?_append_left (by rw [eC_len]; exact hj)]
    | succ i =>
      simp only [List.getElem?_cons_succ] at h
      rw [List.getElem?_append_right (by rw [eC_len]; omega), eC_len, show (i + 1) * 29 + j - 29 = i * 29 + j by omega]
      exact ih i h
theorem eC_one (r : RE) : ∀ u ∈ (reC r).toList, u.oneCell' = true := by simp [reC, Value.oneCell']
def EL (w : World) (base : Nat) (v : Value) (L : List RE) : Prop := w.ownsRow base 163 29 v L.length (ecs L)
theorem EL.nil (w : World) (base : Nat) : EL w base (.slice none 0 0) [] := World.ownsRow_nil _ _ _ _
theorem EL.ch {S : Nat → Prop} {a b : World} {base : Nat} {v : Value} {L : List RE} (h : EL a base v L) (k : Ch S a b) (hS : ∀ g, v.ownBlock = some g → ¬ S g) : EL b base v L := k.owns h hS
theorem EL.below {a b : World} {base : Nat} {v : Value} {L : List RE} (h : EL a base v L) (k : Below a.heap.size a b) : EL b base v L := h.ch (Ch.ofBelow (S := fun _ => False) k) (fun _ _ => id)
theorem EL.at {w : World} {base : Nat} {v : Value} {L : List RE} (h : EL w base v L) (i : Nat) (r : RE) (hr : L[i]? = some r) : ∃ g cap, v = .slice (some ⟨g, 0, none⟩) L.length cap ∧ base ≤ g ∧ g < w.heap.size ∧ w.rangeAt g (i * 29) (reC r).toList := by
  have hi := (List.getElem?_eq_some_iff.1 hr).1
  rcases h.2 with ⟨rfl, h0⟩ | ⟨g, cap, cur, rfl, hb, hg, hnc, hcm, hcs, ht⟩
  · omega
  · refine ⟨g, cap, rfl, hb, (Array.getElem?_eq_some_iff.1 hg).1, fun j u hj => ?_⟩
    have hj' : j < 29 := by have := (List.getElem?_eq_some_iff.1 hj).1; rwa [eC_len] at this
    have hc := h.cells rfl (i * 29 + j) u (by rw [ecs_get L i r hr j hj']; exact hj)
    rwa [Addr.add_lit, Nat.zero_add] at hc
theorem run_bs1e (r : RE) (w : World) : (Instr.buildSlice 85 1 #[(0, .agg (reC r))]).run Try.prog w = .ok (.slice (some ⟨w.heap.size, 0, none⟩) 1 1) (w.alloc (.cells (reC r) 163)) := by kernel_rfl
theorem wpList_bs1e {ops : Array Oper} {rest : List Oper} {o : Oper} {a : Act} {w : World} {Q : Exit → Act → World → Prop} (x : Operand) (ho : o.op = .buildSlice 85 1 #[(0, x)]) (r : RE) (hx : a.eval x = .agg (reC r)) (hw : Region.wanted o (yielded ops a.tmps) = true)
    (h : wpList Try.prog ops Q rest (a.put o.dst (.slice (some ⟨w.heap.size, 0, none⟩) 1 1)) (w.alloc (.cells (reC r) 163))) : wpList Try.prog ops Q (o :: rest) a w := by
  refine wpList_step fun K hK => ?_
  rw [if_pos hw]
  unfold Oper.wp execOp
  simp only [ho, Sem.run_bind, List.map_toArray, List.map_cons, List.map_nil, hx, run_bs1e r w, Result.andThen_ok]
  exact hK _ _ h
theorem Try.infoE : ∃ i z, Try.prog.info? 163 = some i ∧ i.zero = some z ∧ i.size = 29 ∧ z.cells.size = 29 ∧ i.bytes ≤ 1000 := by
  have h : (Try.prog.info? 163).any (fun i => i.zero.any (fun z => i.size == 29 && z.cells.size == 29 && decide (i.bytes ≤ 1000))) = true := by kernel_rfl
  cases hi : Try.prog.info? 163 with
  | none => rw [hi] at h; simp at h
  | some i =>
    rw [hi] at h
    cases hz : i.zero with
    | none => rw [Option.any_some, hz] at h; simp at h
    | some z =>
      rw [Option.any_some, hz, Option.any_some] at h
      simp only [Bool.and_eq_true, beq_iff_eq, decide_eq_true_eq] at h
      exact ⟨i, z, rfl, hz, h.1.1, h.1.2, h.2⟩
/-- append of one route that lies in a box of its own -/
theorem wpList_app1e {ops : Array Oper} {rest : List Oper} {o : Oper} {a : Act} {w : World} {Q : Exit → Act → World → Prop} (hgd : o.guard = none) (s x : Operand) (ho : o.op = .call { callee := .builtin .append, args := #[s, x], argTypes := #[85, 85] })
    (base : Nat) (v : Value) (L : List RE) (hs : a.eval s = v) (hown : EL w base v L) (B : Nat) (r : RE) (hx : a.eval x = .slice (some ⟨B, 0, none⟩) 1 1) (hB : RenAt w B r) (hL : L.length ≤ 100000) (hbase : base ≤ w.heap.size)
    (h : ∀ v' w', EL w' base v' (L ++ [r]) → w.grownBy w' v.ownBlock → (v'.ownBlock = v.ownBlock ∨ v'.ownBlock = some w.heap.size) → wpList Try.prog ops Q rest (a.put o.dst v') w') : wpList Try.prog ops Q (o :: rest) a w := by
  obtain ⟨i, z, hi, hz0, hz1, hz2, hz3⟩ := Try.infoE
  refine wpList_append_own_at w hgd s x 85 ho base 163 i z 29 i.bytes Try.underlying85 hi hz0 hz1 rfl hz2 (by decide) v L.length (ecs L) hs hown ⟨B, 0, none⟩ 1 1 (reC r).toList hx (by rw [eC_len]) ?_ (eC_one r) (by unfold maxLen; omega) ?_ hbase ?_
  · intro j u hj
    rw [Addr.add_lit, Nat.zero_add, hB.cell j]
    simpa using hj
  · calc (L.length + 1) * i.bytes ≤ 100001 * 1000 := Nat.mul_le_mul (by omega) hz3
      _ ≤ _ := by decide
  · intro v' w' h1 h2 _ h4
    refine h v' w' ?_ h2 h4
    show w'.ownsRow base 163 29 v' (L ++ [r]).length (ecs (L ++ [r]))
    rw [ecs_app, ecs_one, List.length_append]
    exact h1
theorem EL.form {w : World} {base : Nat} {v : Value} {L : List RE} (h : EL w base v L) : ∃ va vc, v = .slice va L.length vc := by
  rcases h.2 with ⟨rfl, h0⟩ | ⟨g, cap, cur, rfl, _⟩
  · exact ⟨none, 0, by rw [h0]⟩
  · exact ⟨_, _, rfl⟩
theorem EL.cells {w : World} {base : Nat} {v : Value} {L : List RE} (h : EL w base v L) : ∀ g, v.ownBlock = some g → base ≤ g ∧ g < w.heap.size ∧ ∃ c, w.heap[g]? = some (.cells c 163 (0, 0)) := by
  intro g hg
  rcases h.2 with ⟨rfl, _⟩ | ⟨g', cap, cur, rfl, hb, hh, _⟩
  · simp [Value.ownBlock] at hg
  · simp [Value.ownBlock] at hg; subst hg; exact ⟨hb, (Array.getElem?_eq_some_iff.1 hh).1, cur, hh⟩
theorem EL.mono {w : World} {b b' : Nat} {v : Value} {L : List RE} (h : EL w b v L) (hb : b' ≤ b) : EL w b' v L := by
  refine ⟨h.1, ?_⟩
  rcases h.2 with h2 | ⟨g, cap, cur, rfl, hg, r⟩
  · exact .inl h2
  · exact .inr ⟨g, cap, cur, rfl, Nat.le_trans hb hg, r⟩
theorem EL.of_block {w w' : World} {base : Nat} {v : Value} {L : List RE} (h : EL w base v L) (k : ∀ g o, v.ownBlock = some g → w.heap[g]? = some o → w'.heap[g]? = some o) : EL w' base v L := by
  refine ⟨h.1, ?_⟩
  rcases h.2 with hn | ⟨g, cap, cur, rfl, hb, hgg, rest⟩
  · exact .inl hn
  · exact .inr ⟨g, cap, cur, rfl, hb, k g _ rfl hgg, rest⟩
section
variable {α : Type} (K : Nat) (cells : α → List Value)
theorem fmc_len (hcl : ∀ o, (cells o).length = K) (L : List α) : (L.flatMap cells).length = L.length * K := by
  induction L with
  | nil => simp
  | cons r L ih => rw [List.flatMap_cons, List.length_append, ih, hcl, List.length_cons, Nat.succ_mul, Nat.add_comm]
theorem fmc_get (hcl : ∀ o, (cells o).length = K) (L : List α) (i : Nat) (r : α) (h : L[i]? = some r) (j : Nat) (hj : j < K) : (L.flatMap cells)[i * K + j]? = (cells r)[j]? := by
  induction L generalizing i with
  | nil => simp at h
  | cons s L ih =>
    rw [List.flatMap_cons]
    cases i with
    | zero =>
      simp only [List.getElem?_cons_zero, Option.some.injEq] at h
      subst h
      rw [Nat.zero_mul, Nat.zero_add, List.getElem?_append_left (by rw [hcl]; exact hj)]
    | succ i =>
      simp only [List.getElem?_cons_succ] at h
      rw [List.getElem?_append_right (by rw [hcl, Nat.succ_mul]; omega), hcl, show (i + 1) * K + j - K = i * K + j by rw [Nat.succ_mul]; omega]
      exact ih i h
def GL (e : TypeId) (w : World) (base : Nat) (v : Value) (L : List α) : Prop := w.ownsRow base e K v L.length (L.flatMap cells)
variable {K cells}
/-- a list of one's own, read as one that is handed in -/
theorem GL.listG {e : TypeId} {w : World} {base : Nat} {v : Value} {L : List α} {ok : α → Prop} (h : GL K cells e w base v L) (hcl : ∀ o, (cells o).length = K) (hok : ∀ o ∈ L, ok o) : ∃ va vc, v = .slice va L.length vc ∧ ListG K cells ok w va L := by
  rcases h.2 with ⟨rfl, h0⟩ | ⟨g, cap, cur, rfl, hb, hg, hnc, hcm, hcs, ht⟩
  · have : L = [] := List.eq_nil_of_length_eq_zero h0
    exact ⟨none, 0, by rw [h0], .inl this⟩
  · refine ⟨some ⟨g, 0, none⟩, cap, rfl, .inr ⟨g, 0, rfl, (Array.getElem?_eq_some_iff.1 hg).1, fun i o ho => ⟨hok o (List.mem_of_getElem? ho), fun j hj => ?_⟩⟩⟩
    have hj' : j < (cells o).length := by rw [hcl]; exact hj
    have hc := h.cells rfl (i * K + j) ((cells o)[j]) (by rw [fmc_get K cells hcl L i o ho j hj]; exact List.getElem?_eq_getElem hj')
    rw [Addr.add_lit, Nat.zero_add] at hc
    rw [Nat.zero_add, hc, List.getElem?_eq_getElem hj']
/-- append of a list that was handed in -/
theorem wpList_appG {ops : Array Oper} {rest : List Oper} {o : Oper} {a : Act} {w : World} {Q : Exit → Act → World → Prop} (hcl : ∀ o, (cells o).length = K) (h1c : ∀ o, ∀ u ∈ cells o, u.oneCell' = true) (hK : 0 < K) (hgd : o.guard = none) (s x : Operand) (t e : TypeId) (ho : o.op = .call { callee := .builtin .append, args := #[s, x], argTypes := #[t, t] })
    (ht : Try.prog.underlying t = some (.slice e)) (hinfo : ∃ i z, Try.prog.info? e = some i ∧ i.zero = some z ∧ i.size = K ∧ z.cells.size = K ∧ i.bytes ≤ 1000)
    (base : Nat) (v : Value) (L : List α) (hs : a.eval s = v) (hown : GL K cells e w base v L) (ok : α → Prop) (la : Option Addr) (lc : Nat) (rs : List α) (hx : a.eval x = .slice la rs.length lc) (hG : ListG K cells ok w la rs) (hL : L.length ≤ 100000) (hR : rs.length ≤ 1048576) (hbase : base ≤ w.heap.size)
    (h : ∀ v' w', GL K cells e w' base v' (L ++ rs) → w.grownBy w' v.ownBlock → (v'.ownBlock = v.ownBlock ∨ v'.ownBlock = some w.heap.size) → wpList Try.prog ops Q rest (a.put o.dst v') w') : wpList Try.prog ops Q (o :: rest) a w := by
  obtain ⟨i, z, hi, hz0, hz1, hz2, hz3⟩ := hinfo
  cases la with
  | none =>
    have hr0 : rs = [] := by
      rcases hG with h0 | ⟨b, off, hb, _⟩
      · exact h0
      · cases hb
    subst hr0
    refine wpList_plain hgd fun Kk hKk => ?_
    have hrun := run_append_nil (P := Try.prog) (w := w) base t o.type e i K ht hi v L.length lc (L.flatMap cells) hown
    unfold Oper.wp
    simp only [List.length_nil] at hx
    simp [execOp, ho, resolve, invoke, builtin, hs, hx, hrun, Result.andThen]
    exact hKk _ _ (h v w (by simpa using hown) ⟨rfl, rfl, rfl, Nat.le_refl _, fun _ _ _ => rfl⟩ (.inl rfl))
  | some ad =>
    refine wpList_append_own_at w hgd s x t ho base e i z K i.bytes ht hi hz0 hz1 rfl hz2 hK v L.length (L.flatMap cells) hs hown ad rs.length lc (rs.flatMap cells) hx (fmc_len K cells hcl rs) ?_ ?_ (by unfold maxLen; omega) ?_ hbase ?_
    · intro j u hj
      rcases hG with h0 | ⟨b, off, hb, hlt, hc⟩
      · subst h0; simp at hj
      · cases hb
        have hjl := (List.getElem?_eq_some_iff.1 hj).1
        rw [fmc_len K cells hcl] at hjl
        have hq : j / K < rs.length := (Nat.div_lt_iff_lt_mul hK).2 hjl
        have hm : j % K < K := Nat.mod_lt _ hK
        have hoq : rs[j / K]? = some rs[j / K] := List.getElem?_eq_getElem hq
        have e1 : j / K * K + j % K = j := by rw [Nat.mul_comm]; exact Nat.div_add_mod j K
        have e2 := fmc_get K cells hcl rs (j / K) _ hoq (j % K) hm
        rw [e1, hj] at e2
        have e3 := (hc (j / K) _ hoq).2 (j % K) hm
        rw [Nat.add_assoc, e1] at e3
        rw [Addr.add_lit, e3, ← e2]
    · intro u hu
      obtain ⟨o', _, hu'⟩ := List.mem_flatMap.1 hu
      exact h1c o' u hu'
    · calc (L.length + rs.length) * i.bytes ≤ 1148576 * 1000 := Nat.mul_le_mul (by omega) hz3
        _ ≤ _ := by decide
    · intro v' w' q1 q2 _ q4
      refine h v' w' ?_ q2 q4
      show w'.ownsRow base e K v' (L ++ rs).length ((L ++ rs).flatMap cells)
      rw [List.flatMap_append, List.length_append]
      exact q1
end

def EOkT (_ : RE) : Prop := True
def reL (r : RE) : List Value := (reC r).toList
theorem reL_len (r : RE) : (reL r).length = 29 := rfl
theorem EL_GL {w : World} {base : Nat} {v : Value} {L : List RE} : EL w base v L ↔ GL 29 reL 163 w base v L := Iff.rfl
/-- a list of entries that lies somewhere, to be read -/
abbrev ER (w : World) (la : Option Addr) (R : List RE) : Prop := ListG 29 reL EOkT w la R
theorem EL.er {w : World} {base : Nat} {v : Value} {L : List RE} (h : EL w base v L) : ∃ va vc, v = .slice va L.length vc ∧ ER w va L := GL.listG (EL_GL.1 h) reL_len (fun _ _ => trivial)
theorem ER.below {w w' : World} {la : Option Addr} {R : List RE} (h : ER w la R) (b : Below w.heap.size w w') : ER w' la R := ListG.old h b
theorem ER.ch {S : Nat → Prop} {w w' : World} {la : Option Addr} {R : List RE} (h : ER w la R) (k : Ch S w w') (hS : ∀ b off, la = some ⟨b, off, none⟩ → ¬ S b) : ER w' la R := by
  rcases h with h | ⟨b, off, ha, hlt, hc⟩
  · exact .inl h
  · refine .inr ⟨b, off, ha, by have := k.size; omega, fun i o ho => ⟨(hc i o ho).1, fun j hj => ?_⟩⟩
    rw [← (hc i o ho).2 j hj]
    have e := k.block b hlt (hS b off ha)
    unfold World.cell?
    simp only [e]
theorem ER.take {w : World} {la : Option Addr} {R : List RE} (h : ER w la R) (i : Nat) : ER w la (R.take i) := by
  rcases h with h | ⟨b, off, ha, hlt, hc⟩
  · exact .inl (by rw [h]; simp)
  · refine .inr ⟨b, off, ha, hlt, fun j o ho => hc j o ?_⟩
    rw [List.getElem?_take] at ho
    split at ho
    · exact ho
    · cases ho
theorem ER.drop {w : World} {b off : Nat} {R : List RE} (h : ER w (some ⟨b, off, none⟩) R) (i : Nat) : ER w (some ⟨b, off + i * 29, none⟩) (R.drop i) := by
  rcases h with h | ⟨b', off', ha, hlt, hc⟩
  · exact .inl (by rw [h]; simp)
  · cases ha
    refine .inr ⟨b, off + i * 29, rfl, hlt, fun j o ho => ?_⟩
    rw [List.getElem?_drop] at ho
    refine ⟨trivial, fun k hk => ?_⟩
    rw [← (hc (i + j) o ho).2 k hk]
    congr 2
    rw [Nat.add_mul]; omega
theorem ER.at {w : World} {la : Option Addr} {R : List RE} (h : ER w la R) (i : Nat) (r : RE) (hr : R[i]? = some r) : ∃ b off, la = some ⟨b, off, none⟩ ∧ b < w.heap.size ∧ w.rangeAt b (off + i * 29) (reC r).toList := by
  obtain ⟨_, b, off, ha, hlt, hc⟩ := ListG.at h i r hr
  refine ⟨b, off, ha, hlt, fun j v hj => ?_⟩
  have hj' : j < 29 := (List.getElem?_eq_some_iff.1 hj).1
  rw [hc j hj']
  exact hj
theorem re_nb {A : World} {g o : Nat} {r : RE} (h : A.rangeAt g o (reC r).toList) : A.rangeAt g o (nbC r.n.nb).toList := by
  intro i v hi
  have hl : i < 28 := (List.getElem?_eq_some_iff.1 hi).1
  refine h i v ?_
  have e : (nbC r.n.nb).toList = (reC r).toList.take 28 := rfl
  rw [e, List.getElem?_take, if_pos hl] at hi
  exact hi
theorem wpList_app_er {ops : Array Oper} {rest : List Oper} {o : Oper} {a : Act} {w : World} {Q : Exit → Act → World → Prop} (hgd : o.guard = none) (s x : Operand) (ho : o.op = .call { callee := .builtin .append, args := #[s, x], argTypes := #[85, 85] })
    (base : Nat) (v : Value) (L : List RE) (hs : a.eval s = v) (hown : EL w base v L) (la : Option Addr) (n lc : Nat) (R : List RE) (hx : a.eval x = .slice la n lc) (hn : R.length = n) (hG : ER w la R) (hL : L.length ≤ 100000) (hR : n ≤ 1048576) (hbase : base ≤ w.heap.size)
    (h : ∀ v' w', EL w' base v' (L ++ R) → w.grownBy w' v.ownBlock → (v'.ownBlock = v.ownBlock ∨ v'.ownBlock = some w.heap.size) → wpList Try.prog ops Q rest (a.put o.dst v') w') : wpList Try.prog ops Q (o :: rest) a w := by
  subst hn
  exact wpList_appG (cells := reL) reL_len eC_one (by decide) hgd s x 85 163 ho Try.underlying85 Try.infoE base v L hs hown EOkT la lc R hx hG hL hR hbase h
end Go.Proofs.Ytialefdojeddjaa
