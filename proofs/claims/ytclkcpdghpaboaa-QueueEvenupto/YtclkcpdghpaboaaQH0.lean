/-
  Layer 18: queues under way, one or two; steps; num, two, queueOf.
-/
import Derived.Test.YtclkcpdghpaboaaQFB
namespace Go.Proofs.Ytclkcpdghpaboaa
open Go.RowKit Go.ChangeShapes Go.WideShapes

/-- all blocks but queues' own stand -/
structure Kp (w w' : World) : Prop where
  os : w'.os = w.os
  tape : w'.tape = w.tape
  output : w'.output = w.output
  size : w.heap.size ≤ w'.heap.size
  block : ∀ (B : Nat) (cc : Array Value) (ty : TypeId), w.heap[B]? = some (.cells cc ty (0, 0)) → ty ≠ 104 → ty ≠ 98 → ty ≠ 119 → w'.heap[B]? = some (.cells cc ty (0, 0))
theorem Kp.refl (w : World) : Kp w w := ⟨rfl, rfl, rfl, Nat.le_refl _, fun _ _ _ h _ _ _ => h⟩
theorem Kp.trans {a b c : World} (h : Kp a b) (k : Kp b c) : Kp a c := ⟨k.os.trans h.os, k.tape.trans h.tape, k.output.trans h.output, Nat.le_trans h.size k.size, fun B cc ty hb h1 h2 h3 => k.block B cc ty (h.block B cc ty hb h1 h2 h3) h1 h2 h3⟩
theorem Kp.ofBelow {a b : World} (h : Below a.heap.size a b) : Kp a b := ⟨h.os, h.tape, h.output, h.size, fun B _ _ hb _ _ _ => (h.block B (Array.getElem?_eq_some_iff.1 hb).1).trans hb⟩
theorem QA.kp {w w' : World} {P G : Nat} {ms : List CM} {t : TN} (h : QA w P G ms t) (k : Ch (QB P G ms) w w') : Kp w w' := ⟨k.os, k.tape, k.output, k.size, fun B _ _ hb h1 h2 h3 => (k.block B (Array.getElem?_eq_some_iff.1 hb).1 (h.apart hb h1 h2 h3)).trans hb⟩
theorem Kp.gl {α : Type} {K : Nat} {cells : α → List Value} {e : TypeId} {w w' : World} {base : Nat} {v : Value} {L : List α} (k : Kp w w') (h : GL K cells e w base v L) (h1 : e ≠ 104) (h2 : e ≠ 98) (h3 : e ≠ 119) : GL K cells e w' base v L := by
  refine ⟨h.1, ?_⟩
  rcases h.2 with hn | ⟨g, cap, cur, rfl, hb, hgg, rest⟩
  · exact .inl hn
  · exact .inr ⟨g, cap, cur, rfl, hb, k.block g _ _ hgg h1 h2 h3, rest⟩
/-- one queue under way, all of it behind W -/
def Q1 (W : World) (P G : Nat) (cs : List CL) (t : TN) (w : World) : Prop := ∃ ms, csOf ms = cs ∧ QQ w P G ms t ∧ Below W.heap.size W w ∧ ∀ q, QB P G ms q → W.heap.size ≤ q
section
variable {W : World} {P G : Nat} {cs : List CL} {t : TN} {w : World}
theorem Q1.ok (h : Q1 W P G cs t w) : QOk cs t := by obtain ⟨ms, rfl, hq, _⟩ := h; exact hq.ok
theorem Q1.bel (h : Q1 W P G cs t w) : Below W.heap.size W w := by obtain ⟨ms, _, _, hb, _⟩ := h; exact hb
theorem Q1.below {w' : World} (h : Q1 W P G cs t w) (b : Below w.heap.size w w') : Q1 W P G cs t w' := by
  obtain ⟨ms, hc, hq, hb, ho⟩ := h
  exact ⟨ms, hc, hq.below b, hb.trans (b.mono hb.size), ho⟩
/-- what changes is none of a queue's -/
theorem Q1.ch {w' : World} {S : Nat → Prop} (h : Q1 W P G cs t w) (k : Ch S w w') (hS : ∀ q, S q → W.heap.size ≤ q ∧ ∃ cc ty, w.heap[q]? = some (.cells cc ty (0, 0)) ∧ ty ≠ 104 ∧ ty ≠ 98 ∧ ty ≠ 119) : Q1 W P G cs t w' := by
  obtain ⟨ms, hc, hq, hb, ho⟩ := h
  refine ⟨ms, hc, hq.ch k (fun q hq' hs => ?_), hb.trans (k.below (fun q hs => (hS q hs).1) hb.size), ho⟩
  obtain ⟨_, cc, ty, h1, h2, h3, h4⟩ := hS q hs
  exact hq.qa.apart h1 h2 h3 h4 hq'
theorem Q1.push (h : Q1 W P G cs t w) (i size number : Int) : Calls Try.prog 16 #[.pointer (some ⟨P, 0, none⟩), .int .i64 i, .int .i64 size, .int .i64 number] w fun e w' => e = .returned (.int .i64 (pushE cs i size)) ∧ Q1 W P G (pushCs cs i size number) t w' ∧ Kp w w' := by
  obtain ⟨ms, rfl, hq, hb, ho⟩ := h
  refine (push_any P G ms t w hq i size number).mono ?_
  rintro e w' ⟨ms', rfl, q', c', k', s'⟩
  exact ⟨rfl, ⟨ms', c', q', hb.trans (k'.below ho hb.size), fun q hq' => (s' q hq').elim (ho q) (fun e => Nat.le_trans hb.size e)⟩, hq.qa.kp k'⟩
theorem Q1.pop (h : Q1 W P G cs t w)  : Calls Try.prog 17 #[.pointer (some ⟨P, 0, none⟩)] w fun e w' => e = .returned (.tuple #[.int .i64 (popN cs t), .int .i64 (popC cs t), .bool (anyR cs)]) ∧ Q1 W P G (popQ cs t) (popT cs t) w' ∧ Kp w w' := by
  obtain ⟨ms, rfl, hq, hb, ho⟩ := h
  refine (pop_any P G ms t w hq).mono ?_
  rintro e w' ⟨ms', rfl, q', c', k', s'⟩
  exact ⟨rfl, ⟨ms', c', q', hb.trans (k'.below ho hb.size), fun q hq' => ho q (s' q hq')⟩, hq.qa.kp k'⟩
theorem Q1.tick (h : Q1 W P G cs t w)  : Calls Try.prog 26 #[.pointer (some ⟨P, 0, none⟩)] w fun e w' => e = .returned (.tuple #[]) ∧ Q1 W P G (cs.map fillC) t w' ∧ Kp w w' := by
  obtain ⟨ms, rfl, hq, hb, ho⟩ := h
  refine (tick_any P G ms t w hq).mono ?_
  rintro e w' ⟨ms', rfl, q', c', k', s'⟩
  exact ⟨rfl, ⟨ms', c', q', hb.trans (k'.below ho hb.size), fun q hq' => ho q (s' q hq')⟩, hq.qa.kp k'⟩
theorem Q1.peek (h : Q1 W P G cs t w)  : Calls Try.prog 23 #[.pointer (some ⟨P, 0, none⟩)] w fun e w' => e = .returned (.tuple #[.int .i64 (popN cs t), .int .i64 (popC cs t), .bool (anyR cs)]) ∧ Q1 W P G cs t w' ∧ Below w.heap.size w w' := by
  obtain ⟨ms, rfl, hq, hb, ho⟩ := h
  refine (peek_any P G ms t w hq).mono ?_
  rintro e w' ⟨rfl, b⟩
  exact ⟨rfl, ⟨ms, rfl, hq.below b, hb.trans (b.mono hb.size), ho⟩, b⟩
theorem Q1.len (h : Q1 W P G cs t w) (i : Int) : Calls Try.prog 24 #[.pointer (some ⟨P, 0, none⟩), .int .i64 i] w fun e w' => e = .returned (.int .i64 (lenQ cs i)) ∧ Q1 W P G cs t w' ∧ Below w.heap.size w w' := by
  obtain ⟨ms, rfl, hq, hb, ho⟩ := h
  refine (len_any P G ms t w hq i).mono ?_
  rintro e w' ⟨rfl, b⟩
  subst b
  exact ⟨rfl, ⟨ms, rfl, hq, hb, ho⟩, Below.refl _ _⟩
theorem Q1.bytes (h : Q1 W P G cs t w) (i : Int) : Calls Try.prog 25 #[.pointer (some ⟨P, 0, none⟩), .int .i64 i] w fun e w' => e = .returned (.int .i64 (bytQ cs i)) ∧ Q1 W P G cs t w' ∧ Below w.heap.size w w' := by
  obtain ⟨ms, rfl, hq, hb, ho⟩ := h
  refine (bytes_any P G ms t w hq i).mono ?_
  rintro e w' ⟨rfl, b⟩
  subst b
  exact ⟨rfl, ⟨ms, rfl, hq, hb, ho⟩, Below.refl _ _⟩
end
/-- two queues under way, apart -/
def Q2 (W : World) (P G : Nat) (cs : List CL) (t : TN) (P' G' : Nat) (cs' : List CL) (t' : TN) (w : World) : Prop := ∃ ms ms', csOf ms = cs ∧ csOf ms' = cs' ∧ QQ w P G ms t ∧ QQ w P' G' ms' t' ∧ Below W.heap.size W w ∧ (∀ q, QB P G ms q → W.heap.size ≤ q) ∧ (∀ q, QB P' G' ms' q → W.heap.size ≤ q) ∧ ∀ q, QB P G ms q → ¬ QB P' G' ms' q
section
variable {W : World} {P G : Nat} {cs : List CL} {t : TN} {P' G' : Nat} {cs' : List CL} {t' : TN} {w : World}
theorem Q2.swap (h : Q2 W P G cs t P' G' cs' t' w) : Q2 W P' G' cs' t' P G cs t w := by
  obtain ⟨ms, ms', h1, h2, h3, h4, h5, h6, h7, h8⟩ := h
  exact ⟨ms', ms, h2, h1, h4, h3, h5, h7, h6, fun q hq hq' => h8 q hq' hq⟩
theorem Q2.ok (h : Q2 W P G cs t P' G' cs' t' w) : QOk cs t := by obtain ⟨ms, _, rfl, _, hq, _⟩ := h; exact hq.ok
theorem Q2.bel (h : Q2 W P G cs t P' G' cs' t' w) : Below W.heap.size W w := by obtain ⟨_, _, _, _, _, _, hb, _⟩ := h; exact hb
theorem Q2.below {w' : World} (h : Q2 W P G cs t P' G' cs' t' w) (b : Below w.heap.size w w') : Q2 W P G cs t P' G' cs' t' w' := by
  obtain ⟨ms, ms', h1, h2, h3, h4, h5, h6, h7, h8⟩ := h
  exact ⟨ms, ms', h1, h2, h3.below b, h4.below b, h5.trans (b.mono h5.size), h6, h7, h8⟩
theorem Q2.ch {w' : World} {S : Nat → Prop} (h : Q2 W P G cs t P' G' cs' t' w) (k : Ch S w w') (hS : ∀ q, S q → W.heap.size ≤ q ∧ ∃ cc ty, w.heap[q]? = some (.cells cc ty (0, 0)) ∧ ty ≠ 104 ∧ ty ≠ 98 ∧ ty ≠ 119) : Q2 W P G cs t P' G' cs' t' w' := by
  obtain ⟨ms, ms', h1, h2, h3, h4, h5, h6, h7, h8⟩ := h
  refine ⟨ms, ms', h1, h2, h3.ch k (fun q hq' hs => ?_), h4.ch k (fun q hq' hs => ?_), h5.trans (k.below (fun q hs => (hS q hs).1) h5.size), h6, h7, h8⟩
  · obtain ⟨_, cc, ty, g1, g2, g3, g4⟩ := hS q hs
    exact h3.qa.apart g1 g2 g3 g4 hq'
  · obtain ⟨_, cc, ty, g1, g2, g3, g4⟩ := hS q hs
    exact h4.qa.apart g1 g2 g3 g4 hq'
/-- a second queue that was made behind the first -/
theorem Q1.and (h : Q1 W P G cs t w) {w' : World} {ms' : List CM} (hq : QQ w' P' G' ms' t') (b : Below w.heap.size w w') (ho : ∀ q, QB P' G' ms' q → w.heap.size ≤ q) : Q2 W P G cs t P' G' (csOf ms') t' w' := by
  obtain ⟨ms, h1, h2, h3, h4⟩ := h
  exact ⟨ms, ms', h1, rfl, h2.below b, hq, h3.trans (b.mono h3.size), h4, fun q hq' => Nat.le_trans h3.size (ho q hq'), fun q hq1 hq2 => by have := h2.qa.lt q hq1; have := ho q hq2; omega⟩
theorem Q2.push (h : Q2 W P G cs t P' G' cs' t' w) (i size number : Int) : Calls Try.prog 16 #[.pointer (some ⟨P, 0, none⟩), .int .i64 i, .int .i64 size, .int .i64 number] w fun e w' => e = .returned (.int .i64 (pushE cs i size)) ∧ Q2 W P G (pushCs cs i size number) t P' G' cs' t' w' ∧ Kp w w' := by
  obtain ⟨ms, ms', rfl, rfl, h3, h4, h5, h6, h7, h8⟩ := h
  refine (push_any P G ms t w h3 i size number).mono ?_
  rintro e w' ⟨mz, rfl, q', c', k', s'⟩
  have hs : ∀ q, QB P G mz q → QB P G ms q ∨ w.heap.size ≤ q := s'
  refine ⟨rfl, ⟨mz, ms', c', rfl, q', h4.ch k' (fun q hq hs' => h8 q hs' hq), h5.trans (k'.below h6 h5.size), fun q hq => (hs q hq).elim (h6 q) (fun e => Nat.le_trans h5.size e), h7, fun q hq hq' => (hs q hq).elim (fun e => h8 q e hq') (fun e => ?_)⟩, h3.qa.kp k'⟩
  have := h4.qa.lt q hq'
  omega
theorem Q2.pop (h : Q2 W P G cs t P' G' cs' t' w)  : Calls Try.prog 17 #[.pointer (some ⟨P, 0, none⟩)] w fun e w' => e = .returned (.tuple #[.int .i64 (popN cs t), .int .i64 (popC cs t), .bool (anyR cs)]) ∧ Q2 W P G (popQ cs t) (popT cs t) P' G' cs' t' w' ∧ Kp w w' := by
  obtain ⟨ms, ms', rfl, rfl, h3, h4, h5, h6, h7, h8⟩ := h
  refine (pop_any P G ms t w h3).mono ?_
  rintro e w' ⟨mz, rfl, q', c', k', s'⟩
  have hs : ∀ q, QB P G mz q → QB P G ms q ∨ w.heap.size ≤ q := fun q hq => .inl (s' q hq)
  refine ⟨rfl, ⟨mz, ms', c', rfl, q', h4.ch k' (fun q hq hs' => h8 q hs' hq), h5.trans (k'.below h6 h5.size), fun q hq => (hs q hq).elim (h6 q) (fun e => Nat.le_trans h5.size e), h7, fun q hq hq' => (hs q hq).elim (fun e => h8 q e hq') (fun e => ?_)⟩, h3.qa.kp k'⟩
  have := h4.qa.lt q hq'
  omega
theorem Q2.tick (h : Q2 W P G cs t P' G' cs' t' w)  : Calls Try.prog 26 #[.pointer (some ⟨P, 0, none⟩)] w fun e w' => e = .returned (.tuple #[]) ∧ Q2 W P G (cs.map fillC) t P' G' cs' t' w' ∧ Kp w w' := by
  obtain ⟨ms, ms', rfl, rfl, h3, h4, h5, h6, h7, h8⟩ := h
  refine (tick_any P G ms t w h3).mono ?_
  rintro e w' ⟨mz, rfl, q', c', k', s'⟩
  have hs : ∀ q, QB P G mz q → QB P G ms q ∨ w.heap.size ≤ q := fun q hq => .inl (s' q hq)
  refine ⟨rfl, ⟨mz, ms', c', rfl, q', h4.ch k' (fun q hq hs' => h8 q hs' hq), h5.trans (k'.below h6 h5.size), fun q hq => (hs q hq).elim (h6 q) (fun e => Nat.le_trans h5.size e), h7, fun q hq hq' => (hs q hq).elim (fun e => h8 q e hq') (fun e => ?_)⟩, h3.qa.kp k'⟩
  have := h4.qa.lt q hq'
  omega
theorem Q2.peek (h : Q2 W P G cs t P' G' cs' t' w)  : Calls Try.prog 23 #[.pointer (some ⟨P, 0, none⟩)] w fun e w' => e = .returned (.tuple #[.int .i64 (popN cs t), .int .i64 (popC cs t), .bool (anyR cs)]) ∧ Q2 W P G cs t P' G' cs' t' w' ∧ Below w.heap.size w w' := by
  obtain ⟨ms, ms', rfl, rfl, h3, h4, h5, h6, h7, h8⟩ := h
  refine (peek_any P G ms t w h3).mono ?_
  rintro e w' ⟨rfl, b⟩
  exact ⟨rfl, ⟨ms, ms', rfl, rfl, h3.below b, h4.below b, h5.trans (b.mono h5.size), h6, h7, h8⟩, b⟩
theorem Q2.len (h : Q2 W P G cs t P' G' cs' t' w) (i : Int) : Calls Try.prog 24 #[.pointer (some ⟨P, 0, none⟩), .int .i64 i] w fun e w' => e = .returned (.int .i64 (lenQ cs i)) ∧ Q2 W P G cs t P' G' cs' t' w' ∧ Below w.heap.size w w' := by
  obtain ⟨ms, ms', rfl, rfl, h3, h4, h5, h6, h7, h8⟩ := h
  refine (len_any P G ms t w h3 i).mono ?_
  rintro e w' ⟨rfl, b⟩
  subst b
  exact ⟨rfl, ⟨ms, ms', rfl, rfl, h3, h4, h5, h6, h7, h8⟩, Below.refl _ _⟩
theorem Q2.bytes (h : Q2 W P G cs t P' G' cs' t' w) (i : Int) : Calls Try.prog 25 #[.pointer (some ⟨P, 0, none⟩), .int .i64 i] w fun e w' => e = .returned (.int .i64 (bytQ cs i)) ∧ Q2 W P G cs t P' G' cs' t' w' ∧ Below w.heap.size w w' := by
  obtain ⟨ms, ms', rfl, rfl, h3, h4, h5, h6, h7, h8⟩ := h
  refine (bytes_any P G ms t w h3 i).mono ?_
  rintro e w' ⟨rfl, b⟩
  subst b
  exact ⟨rfl, ⟨ms, ms', rfl, rfl, h3, h4, h5, h6, h7, h8⟩, Below.refl _ _⟩
end
/-- a step -/
structure OV where
  kd : Int
  tw : Bool
  cl : Int
  sz : Int
  it : Int
def opC (o : OV) : Array Value := #[.int .i64 o.kd, .bool o.tw, .int .i64 o.cl, .int .i64 o.sz, .int .i64 o.it]
def oz : OV := ⟨0, false, 0, 0, 0⟩
def W64 (z : Int) : Prop := -9223372036854775808 ≤ z ∧ z ≤ 9223372036854775807
structure OpOk (o : OV) : Prop where
  cl : W64 o.cl
  sz : W64 o.sz
  it : W64 o.it
def ocL (o : OV) : List Value := (opC o).toList
theorem ocL_len (o : OV) : (ocL o).length = 5 := rfl
structure LiW (l : LI) : Prop where
  q : W64 l.q
  it : W64 l.it
  by' : W64 l.by'
  ra : W64 l.ra
  bu : W64 l.bu
theorem Try.size_opv : (Try.prog.info? 43).map (·.size) = some 5 := by kernel_rfl
def OpvAt (w : World) (O : Nat) (ov : OV) : Prop := w.heap[O]? = some (.cells (opC ov) 43 (0, 0))
section
variable {w : World} {O : Nat} {ov : OV} (k : OpvAt w O ov)
include k
theorem OpvAt.lt : O < w.heap.size := (Array.getElem?_eq_some_iff.1 k).1
theorem OpvAt.ch {S : Nat → Prop} {w' : World} (c : Ch S w w') (hS : ¬ S O) : OpvAt w' O ov := (c.block O k.lt hS).trans k
theorem OpvAt.below {w' : World} (c : Below w.heap.size w w') : OpvAt w' O ov := (c.block O k.lt).trans k
theorem OpvAt.cell (i : Nat) : w.cell? ⟨O, i, none⟩ = (opC ov)[i]? := by unfold OpvAt at k; simp [World.cell?, k]
theorem OpvAt.fz (j : Nat) : w.frozen? ⟨O, j, none⟩ = false := by unfold OpvAt at k; simp [World.frozen?, k]
theorem OpvAt.range (o n : Nat) : w.rangeAt O o (((opC ov).extract o (o + n)).toList) := World.rangeAt_of_block k o n
end
theorem opv_new (w : World) (ov : OV) : OpvAt (w.alloc (.cells (opC ov) 43)) w.heap.size ov := heap_alloc_new _ _
theorem wpList_load_opv {ops : Array Oper} {rest : List Oper} {o : Oper} {a : Act} {w : World} {Q : Exit → Act → World → Prop} (x : Operand) (ho : o.op = .load 43 x) (O : Nat) (ov : OV) (hx : a.eval x = .pointer (some ⟨O, 0, none⟩)) (hb : OpvAt w O ov)
    (hw : Region.wanted o (yielded ops a.tmps) = true) (hh : wpList Try.prog ops Q rest (a.put o.dst (.agg (opC ov))) w) : wpList Try.prog ops Q (o :: rest) a w := by
  refine wpList_step fun K hK => ?_
  rw [if_pos hw]
  exact wp_load_row 43 x ho O hx _ _ _ _ hb Try.underlying43 rfl Try.size_opv (hK _ _ hh)
theorem wpList_store_opv {ops : Array Oper} {rest : List Oper} {o : Oper} {a : Act} {w : World} {Q : Exit → Act → World → Prop} (x y : Operand) (ho : o.op = .store 43 x y) (hd : o.dst = none) (O : Nat) (ov : OV) (ov' : OV) (hx : a.eval x = .pointer (some ⟨O, 0, none⟩)) (hy : a.eval y = .agg (opC ov')) (hb : OpvAt w O ov)
    (hw : Region.wanted o (yielded ops a.tmps) = true) (hh : ∀ w', OpvAt w' O ov' → Ch (fun q => q = O) w w' → wpList Try.prog ops Q rest a w') : wpList Try.prog ops Q (o :: rest) a w := by
  refine wpList_step fun K hK => ?_
  rw [if_pos hw]
  refine wp_store_row 43 x y ho O (opC ov') hx hy _ (opC ov) hb Try.size_opv rfl (by simp [opC, Value.oneCell']) (hK _ _ ?_)
  rw [hd]
  refine hh _ (setRow_heap w O _ _ _ _ hb) ⟨rfl, rfl, rfl, ?_, ?_⟩
  · simp [World.setRow]
  · intro k hk hne
    simp only [World.setRow]
    rw [Array.getElem?_modify, if_neg (fun e => hne e.symm)]
theorem wpList_alloc_opv {ops : Array Oper} {rest : List Oper} {o : Oper} {a : Act} {w : World} {Q : Exit → Act → World → Prop} (ho : o.op = .alloc 43) (hw : Region.wanted o (yielded ops a.tmps) = true)
    (h : wpList Try.prog ops Q rest (a.put o.dst (.pointer (some ⟨w.heap.size, 0, none⟩))) (w.alloc (.cells (opC oz) 43))) : wpList Try.prog ops Q (o :: rest) a w := by
  refine wpList_step fun K hK => ?_
  rw [if_pos hw]
  have hrun : (execOp a.eval o).run Try.prog w = .ok (.value (.pointer (some ⟨w.heap.size, 0, none⟩))) (w.alloc (.cells (opC oz) 43)) := by
    obtain ⟨dst, op, type, pos, after, guard⟩ := o
    simp only at ho
    subst ho
    simp only [execOp]
    go_simp
    rfl
  unfold Oper.wp
  rw [hrun]
  exact hK _ _ h
theorem yields_opv {ops : Array Oper} {o : Oper} {a : Act} {S : World → Prop} (x : Operand) (ho : o.op = .load 43 x) (O off : Nat) (ov : OV) (hx : a.eval x = .pointer (some ⟨O, off, none⟩)) (hw : Region.wanted o (yielded ops a.tmps) = true) (hS : ∀ w, S w → w.rangeAt O off (opC ov).toList) : YieldsIf Try.prog ops S o (.agg (opC ov)) a :=
  yieldsIf_load_mid hw 43 x ho O off hx (opC ov).toList _ hS Try.underlying43 rfl Try.size_opv
theorem wpList_mid_opv {ops : Array Oper} {rest : List Oper} {o : Oper} {a : Act} {w : World} {Q : Exit → Act → World → Prop} (x : Operand) (ho : o.op = .load 43 x) (O off : Nat) (ov : OV) (hx : a.eval x = .pointer (some ⟨O, off, none⟩)) (hb : w.rangeAt O off (opC ov).toList)
    (hw : Region.wanted o (yielded ops a.tmps) = true) (h : wpList Try.prog ops Q rest (a.put o.dst (.agg (opC ov))) w) : wpList Try.prog ops Q (o :: rest) a w := by
  refine wpList_step fun K hK => ?_
  rw [if_pos hw]
  exact wp_load_mid 43 x ho O off hx (opC ov).toList _ hb Try.underlying43 rfl Try.size_opv (hK _ _ h)
theorem results_opv {fn : Func} {p : Tmp} (h : fn.results = #[.cell p 43]) (tmps : Array Value) (w : World) (O : Nat) (ov : OV) (hp : tmps.getD p undef = .pointer (some ⟨O, 0, none⟩)) (hb : OpvAt w O ov) :
    (results fn tmps).run Try.prog w = .ok (.agg (opC ov)) w :=
  results_cell_row h tmps w O _ (opC ov) _ _ hp hb Try.underlying43 rfl Try.size_opv

theorem wf64 {z : Int} (h : (Lit.int .i64 z).wf = true) : W64 z := by
  simp [Lit.wf, IntKind.min, IntKind.max, IntKind.bits, IntKind.signed] at h
  unfold W64
  omega
theorem Try.cellsI' : Try.prog.cellsOf 3 = 1 := by kernel_rfl
theorem Try.cellsBo' : Try.prog.cellsOf 4 = 1 := by kernel_rfl
theorem Try.cellsOp' : Try.prog.cellsOf 43 = 5 := by kernel_rfl
theorem Try.cellsLi' : Try.prog.cellsOf 36 = 5 := by kernel_rfl
theorem five (l : List Value) (h : l.length = 5) : ∃ a b c d e, l = [a, b, c, d, e] := by
  match l, h with
  | [a, b, c, d, e], _ => exact ⟨a, b, c, d, e, rfl⟩
section
variable {H : Type} {enc : TypeId × Value → H} {W : World}
set_option maxRecDepth 100000 in
theorem open_opw {fuel : Nat} {l : List Value} {x : DataW H × List MemPlace} (hf : DataW.trod enc Try.prog W 0 (fun _ => true) true fuel 43 l = some x) : ∃ o, l = ocL o ∧ OpOk o := by
  obtain ⟨xs, n, _, hx, hl, hlen, hfs⟩ := DataW.trod_struct Try.underlying43 hf
  rw [Try.cellsOp'] at hl
  have hxl : xs.length = 5 := hlen
  have f0 : DataW.trod enc Try.prog W 0 (fun _ => true) true n 3 ((l.drop 0).take (Try.prog.cellsOf 3)) = xs[0]? := hfs 0 _ rfl
  have f1 : DataW.trod enc Try.prog W 0 (fun _ => true) true n 4 ((l.drop 1).take (Try.prog.cellsOf 4)) = xs[1]? := hfs 1 _ rfl
  have f2 : DataW.trod enc Try.prog W 0 (fun _ => true) true n 3 ((l.drop 2).take (Try.prog.cellsOf 3)) = xs[2]? := hfs 2 _ rfl
  have f3 : DataW.trod enc Try.prog W 0 (fun _ => true) true n 3 ((l.drop 3).take (Try.prog.cellsOf 3)) = xs[3]? := hfs 3 _ rfl
  have f4 : DataW.trod enc Try.prog W 0 (fun _ => true) true n 3 ((l.drop 4).take (Try.prog.cellsOf 3)) = xs[4]? := hfs 4 _ rfl
  rw [Try.cellsI'] at f0
  rw [Try.cellsBo'] at f1
  rw [Try.cellsI'] at f2
  rw [Try.cellsI'] at f3
  rw [Try.cellsI'] at f4
  rw [List.getElem?_eq_getElem (by omega)] at f0 f1 f2 f3 f4
  obtain ⟨a0, a1, a2, a3, a4, rfl⟩ := five l hl
  simp only [List.drop_zero, List.drop_succ_cons, List.take_succ_cons, List.take_zero] at f0 f1 f2 f3 f4
  obtain ⟨z0, e0, _, w0⟩ := DataW.trod_int Try.underlying3 f0
  obtain ⟨z1, e1, _⟩ := DataW.trod_bool Try.underlying4 f1
  obtain ⟨z2, e2, _, w2⟩ := DataW.trod_int Try.underlying3 f2
  obtain ⟨z3, e3, _, w3⟩ := DataW.trod_int Try.underlying3 f3
  obtain ⟨z4, e4, _, w4⟩ := DataW.trod_int Try.underlying3 f4
  simp only [List.cons.injEq, and_true] at e0 e1 e2 e3 e4
  subst e0 e1 e2 e3 e4
  exact ⟨⟨z0, z1, z2, z3, z4⟩, rfl, ⟨wf64 w2, wf64 w3, wf64 w4⟩⟩
set_option maxRecDepth 100000 in
theorem open_liw {fuel : Nat} {l : List Value} {x : DataW H × List MemPlace} (hf : DataW.trod enc Try.prog W 0 (fun _ => true) true fuel 36 l = some x) : ∃ o, l = liL o ∧ LiW o := by
  obtain ⟨xs, n, _, hx, hl, hlen, hfs⟩ := DataW.trod_struct Try.underlying36 hf
  rw [Try.cellsLi'] at hl
  have hxl : xs.length = 5 := hlen
  have f0 : DataW.trod enc Try.prog W 0 (fun _ => true) true n 3 ((l.drop 0).take (Try.prog.cellsOf 3)) = xs[0]? := hfs 0 _ rfl
  have f1 : DataW.trod enc Try.prog W 0 (fun _ => true) true n 3 ((l.drop 1).take (Try.prog.cellsOf 3)) = xs[1]? := hfs 1 _ rfl
  have f2 : DataW.trod enc Try.prog W 0 (fun _ => true) true n 3 ((l.drop 2).take (Try.prog.cellsOf 3)) = xs[2]? := hfs 2 _ rfl
  have f3 : DataW.trod enc Try.prog W 0 (fun _ => true) true n 3 ((l.drop 3).take (Try.prog.cellsOf 3)) = xs[3]? := hfs 3 _ rfl
  have f4 : DataW.trod enc Try.prog W 0 (fun _ => true) true n 3 ((l.drop 4).take (Try.prog.cellsOf 3)) = xs[4]? := hfs 4 _ rfl
  rw [Try.cellsI'] at f0
  rw [Try.cellsI'] at f1
  rw [Try.cellsI'] at f2
  rw [Try.cellsI'] at f3
  rw [Try.cellsI'] at f4
  rw [List.getElem?_eq_getElem (by omega)] at f0 f1 f2 f3 f4
  obtain ⟨a0, a1, a2, a3, a4, rfl⟩ := five l hl
  simp only [List.drop_zero, List.drop_succ_cons, List.take_succ_cons, List.take_zero] at f0 f1 f2 f3 f4
  obtain ⟨z0, e0, _, w0⟩ := DataW.trod_int Try.underlying3 f0
  obtain ⟨z1, e1, _, w1⟩ := DataW.trod_int Try.underlying3 f1
  obtain ⟨z2, e2, _, w2⟩ := DataW.trod_int Try.underlying3 f2
  obtain ⟨z3, e3, _, w3⟩ := DataW.trod_int Try.underlying3 f3
  obtain ⟨z4, e4, _, w4⟩ := DataW.trod_int Try.underlying3 f4
  simp only [List.cons.injEq, and_true] at e0 e1 e2 e3 e4
  subst e0 e1 e2 e3 e4
  exact ⟨⟨z0, z1, z2, z3, z4⟩, rfl, ⟨wf64 w0, wf64 w1, wf64 w2, wf64 w3, wf64 w4⟩⟩
theorem open_ops {fuel : Nat} {a : Option Addr} {len cap : Nat} {d : DataW H} {p : List MemPlace} (hf : DataW.trod enc Try.prog W 0 (fun _ => true) true fuel 48 [.slice a len cap] = some (d, p)) (hb : Rows.uptoBulk d ≤ 1048576) :
    ∃ rs : List OV, rs.length = len ∧ ListG 5 ocL OpOk W a rs ∧ len ≤ 1048576 :=
  open_list 5 ocL OpOk Try.underlying48 Try.cellsOp' (by decide) ocL_len (fun _ _ _ h _ => open_opw h) hf hb
theorem open_lis {fuel : Nat} {a : Option Addr} {len cap : Nat} {d : DataW H} {p : List MemPlace} (hf : DataW.trod enc Try.prog W 0 (fun _ => true) true fuel 22 [.slice a len cap] = some (d, p)) (hb : Rows.uptoBulk d ≤ 1048576) :
    ∃ rs : List LI, rs.length = len ∧ ListG 5 liL LiW W a rs ∧ len ≤ 1048576 :=
  open_list 5 liL LiW Try.underlying22 Try.cellsLi' (by decide) liL_len (fun _ _ _ h _ => open_liw h) hf hb
end
/-- the classes that a statement goes by, where they lie -/
structure LsK (W w : World) (a : Option Addr) (ls : List LI) : Prop where
  li : ListG 5 liL LiW w a ls
  kd : ls ≠ [] → ∀ x, a = some x → x.block < W.heap.size ∨ ∃ cc, w.heap[x.block]? = some (.cells cc 36 (0, 0))
theorem LsK.keep {W w w' : World} {a : Option Addr} {ls : List LI} (h : LsK W w a ls) (b : Below W.heap.size W w) (b' : Below W.heap.size W w') (k : Kp w w') : LsK W w' a ls := by
  by_cases h0 : ls = []
  · exact ⟨.inl h0, fun h1 => absurd h0 h1⟩
  · have key : ∀ x, a = some x → w.heap[x.block]?.isSome = true → w'.heap[x.block]? = w.heap[x.block]? := fun x hx _ => by
      rcases h.kd h0 x hx with h1 | ⟨cc, h1⟩
      · rw [b'.block _ h1, b.block _ h1]
      · rw [h1]; exact k.block _ _ _ h1 (by decide) (by decide) (by decide)
    refine ⟨?_, fun h0 x hx => (h.kd h0 x hx).imp id (fun ⟨cc, h1⟩ => ⟨cc, k.block _ _ _ h1 (by decide) (by decide) (by decide)⟩)⟩
    rcases h.li with h0 | ⟨bl, off, ha, hlt, hc⟩
    · exact .inl h0
    · have hb := key ⟨bl, off, none⟩ ha (by rw [Array.getElem?_eq_getElem hlt]; rfl)
      refine .inr ⟨bl, off, ha, Nat.lt_of_lt_of_le hlt k.size, fun i o ho => ⟨(hc i o ho).1, fun j hj => ?_⟩⟩
      rw [← (hc i o ho).2 j hj]
      exact World.cell?_of_block hb
theorem LsK.first {w : World} {a : Option Addr} {ls : List LI} (h : ListG 5 liL LiW w a ls) : LsK w w a ls := ⟨h, fun h0 x hx => by
  rcases h with e | ⟨g, off, ha, hlt, _⟩
  · exact absurd e h0
  · rw [ha] at hx; cases hx; exact .inl hlt⟩
def two0 : List LI := [⟨100, 3, 1000, 0, 0⟩, ⟨200, 9, 1000, 10, 65535⟩]
def qls (ls : List LI) : List LI := if nwB ls then ls else two0
theorem two0_ok : nwB two0 = true := by decide
theorem qls_ok (ls : List LI) : nwB (qls ls) = true := by
  unfold qls
  split
  · assumption
  · exact two0_ok
set_option maxHeartbeats 1600000 in
set_option maxRecDepth 100000 in
theorem num_any (z : Int) (w : World) : Calls Try.prog 15 #[.int .i64 z] w fun e w' => e = .returned (.int .i64 z) ∧ w = w' := by

  go_enter Try.func15, Try.ntmps15
  go_wp2
  go_ret
  exact ⟨rfl, rfl⟩
theorem run_two (w : World) : (Instr.buildSlice 22 2 #[(0, .agg (liA ⟨100, 3, 1000, 0, 0⟩)), (1, .agg (liA ⟨200, 9, 1000, 10, 65535⟩))]).run Try.prog w = .ok (.slice (some ⟨w.heap.size, 0, none⟩) 2 2) (w.alloc (.cells (two0.flatMap liL).toArray 36)) := by kernel_rfl
theorem wpList_two {ops : Array Oper} {rest : List Oper} {o : Oper} {a : Act} {w : World} {Q : Exit → Act → World → Prop} (x y : Operand) (ho : o.op = .buildSlice 22 2 #[(0, x), (1, y)]) (hx : a.eval x = .agg (liA ⟨100, 3, 1000, 0, 0⟩)) (hy : a.eval y = .agg (liA ⟨200, 9, 1000, 10, 65535⟩)) (hw : Region.wanted o (yielded ops a.tmps) = true)
    (h : wpList Try.prog ops Q rest (a.put o.dst (.slice (some ⟨w.heap.size, 0, none⟩) 2 2)) (w.alloc (.cells (two0.flatMap liL).toArray 36))) : wpList Try.prog ops Q (o :: rest) a w := by
  refine wpList_step fun K hK => ?_
  rw [if_pos hw]
  unfold Oper.wp execOp
  simp only [ho, Sem.run_bind, List.map_toArray, List.map_cons, List.map_nil, hx, hy, run_two w, Result.andThen_ok]
  exact hK _ _ h
theorem run_bl1 (w : World) : (Instr.build 36 #[(0, .int .i64 100), (1, .int .i64 3), (2, .int .i64 1000)]).run Try.prog w = .ok (.agg (liA ⟨100, 3, 1000, 0, 0⟩)) w := by kernel_rfl
theorem run_bl2 (w : World) : (Instr.build 36 #[(0, .int .i64 200), (1, .int .i64 9), (2, .int .i64 1000), (3, .int .i64 10), (4, .int .i64 65535)]).run Try.prog w = .ok (.agg (liA ⟨200, 9, 1000, 10, 65535⟩)) w := by kernel_rfl
theorem two_list (w : World) : ListG 5 liL LiW (w.alloc (.cells (two0.flatMap liL).toArray 36)) (some ⟨w.heap.size, 0, none⟩) two0 := by
  refine .inr ⟨w.heap.size, 0, rfl, by rw [World.size_alloc]; omega, fun i o ho => ⟨?_, fun j hj => ?_⟩⟩
  · have hm := List.mem_of_getElem? ho
    simp only [two0, List.mem_cons, List.not_mem_nil, or_false] at hm
    rcases hm with rfl | rfl <;> constructor <;> constructor <;> decide
  · have h1 := fmc_get 5 liL liL_len two0 i o ho j hj
    rw [World.cell?_alloc_at _ _ _ _ rfl, Nat.zero_add, List.getElem?_toArray, h1]
set_option maxHeartbeats 1600000 in
set_option maxRecDepth 100000 in
theorem two_any (w : World) : Calls Try.prog 41 #[] w fun e w' => e = .returned (.slice (some ⟨w.heap.size, 0, none⟩) 2 2) ∧ ListG 5 liL LiW w' (some ⟨w.heap.size, 0, none⟩) two0 ∧ (∃ cc, w'.heap[w.heap.size]? = some (.cells cc 36 (0, 0))) ∧ Below w.heap.size w w' := by
  have HF : Hid (ListG 5 liL LiW (w.alloc (.cells (two0.flatMap liL).toArray 36)) (some ⟨w.heap.size, 0, none⟩) two0 ∧ (∃ cc, (w.alloc (.cells (two0.flatMap liL).toArray 36)).heap[w.heap.size]? = some (.cells cc 36 (0, 0))) ∧ Below w.heap.size w (w.alloc (.cells (two0.flatMap liL).toArray 36))) := ⟨two_list w, ⟨_, heap_alloc_new _ _⟩, (Below.refl _ _).alloc (Nat.le_refl _) _⟩
  go_enter Try.func41, Try.ntmps41
  go_wp2_with (first | (refine wpList_two (.tmp 1) (.tmp 2) rfl rfl rfl rfl ?_))
  go_ret
  exact ⟨rfl, HF.out⟩
theorem mk_out {P G N : Nat} {ls : List LI} (hP : N ≤ P) (hG : N ≤ G) : ∀ q, QB P G (ls.map mk) q → N ≤ q := by
  rintro q (rfl | rfl | ⟨m, hm, hq⟩)
  · exact hP
  · exact hG
  · obtain ⟨l, _, rfl⟩ := List.mem_map.1 hm
    cases hq
theorem boxed_below {S : Nat → Prop} {w w' : World} {o : Obj} (k : Ch S (w.alloc o) w') (hS : ∀ q, S q → w.heap.size ≤ q) : Below w.heap.size w w' := by
  have b0 : Below w.heap.size w (w.alloc o) := (Below.refl _ _).alloc (Nat.le_refl _) _
  exact b0.trans (k.below hS b0.size)
def c0s (ls : List LI) : List CL := ls.map (fun l => ⟨l, [], l.bu⟩)
theorem csOf_mk (ls : List LI) : csOf (ls.map mk) = c0s ls := by unfold csOf c0s; rw [List.map_map]; rfl
set_option maxHeartbeats 1600000 in
set_option maxRecDepth 100000 in
theorem queueOf_any (W : World) (a : Option Addr) (n cap : Nat) (ls : List LI) (w : World) (hl : ls.length = n) (hL : LsK W w a ls) (hn : n ≤ 2000000) (hb : Below W.heap.size W w) : Calls Try.prog 13 #[.slice a n cap] w fun e w' => ∃ P G a' c', e = .returned (.tuple #[.pointer (some ⟨P, 0, none⟩), .slice a' (qls ls).length c']) ∧ QQ w' P G ((qls ls).map mk) tz ∧ Below w.heap.size w w' ∧ w.heap.size ≤ P ∧ w.heap.size ≤ G ∧ LsK W w' a' (qls ls) := by
  have HL : Hid (ls.length = n ∧ LsK W w a ls ∧ n ≤ 2000000 ∧ Below W.heap.size W w) := ⟨hl, hL, hn, hb⟩
  have QN : Hid _ := new_any a n cap ls LiW w hl hL.li hn
  clear hl hL hn hb
  go_enter Try.func13, Try.ntmps13
  go_wp2_with fail
  refine Calls.mono QN.out ?_
  rintro e1 w1 (⟨hnb, P, G, rfl, q1, b1, hP, hG⟩ | ⟨hnb, rfl, b1⟩)
  · have HE : Hid (qls ls = ls) := if_pos hnb
    have HZ : Hid (QQ w1 P G (ls.map mk) tz ∧ Below w.heap.size w w1 ∧ w.heap.size ≤ P ∧ w.heap.size ≤ G ∧ LsK W w1 a ls) := ⟨q1, b1, hP, hG, HL.out.2.1.keep HL.out.2.2.2 (HL.out.2.2.2.trans (b1.mono HL.out.2.2.2.size)) (Kp.ofBelow b1)⟩
    clear hnb q1 b1 hP hG QN
    go_wp2_with fail
    refine Calls.mono (num_any 0 w1) ?_
    rintro e2 w2 ⟨rfl, rfl⟩
    go_wp2_with fail
    refine Calls.mono (num_any 0 w1) ?_
    rintro e3 w3 ⟨rfl, rfl⟩
    go_wp2_with fail
    go_ret2
    rw [HE.out]
    exact ⟨P, G, a, cap, by rw [HL.out.1]; rfl, HZ.out⟩
  · have HE : Hid (qls ls = two0) := by show _ = _; unfold qls; rw [hnb]; rfl
    have HZ : Hid (Below w.heap.size w w1) := b1
    clear hnb b1 QN
    go_wp2_with fail
    refine Calls.mono (num_any 180 w1) ?_
    rintro e2 w2 ⟨rfl, rfl⟩
    go_wp2_with fail
    refine Calls.mono (two_any w1) ?_
    rintro e3 w3 ⟨rfl, l3, ⟨cc, h3⟩, b3⟩
    obtain ⟨B, hB⟩ : ∃ B, w1.heap.size = B := ⟨_, rfl⟩
    rw [hB] at l3 h3 ⊢
    have QM : Hid _ := new_any (some ⟨B, 0, none⟩) 2 2 two0 LiW w3 rfl l3 (by decide)
    have HZ3 : Hid (Below w.heap.size w w3 ∧ LsK W w3 (some ⟨B, 0, none⟩) two0 ∧ w.heap.size ≤ w3.heap.size) := ⟨bthen HZ.out b3, ⟨l3, fun _ x hx => .inr (by cases hx; exact ⟨cc, h3⟩)⟩, (bthen HZ.out b3).size⟩
    clear l3 h3 b3 hB
    go_wp2_with fail
    refine Calls.mono QM.out ?_
    rintro e4 w4 (⟨hnb, P, G, rfl, q4, b4, hP, hG⟩ | ⟨hnb, _, _⟩)
    · have HZ4 : Hid (QQ w4 P G (two0.map mk) tz ∧ Below w.heap.size w w4 ∧ w.heap.size ≤ P ∧ w.heap.size ≤ G ∧ LsK W w4 (some ⟨B, 0, none⟩) two0) := by
        have h0 := HZ3.out.2.2
        have hb := HL.out.2.2.2
        have b34 := bthen HZ3.out.1 b4
        have bw3 : Below W.heap.size W w3 := hb.trans (HZ3.out.1.mono hb.size)
        have bw4 : Below W.heap.size W w4 := hb.trans (b34.mono hb.size)
        exact ⟨q4, b34, by omega, by omega, HZ3.out.2.1.keep bw3 bw4 (Kp.ofBelow b4)⟩
      clear hnb q4 b4 hP hG QM
      go_wp2_with fail
      refine Calls.mono (num_any 0 w4) ?_
      rintro e5 w5 ⟨rfl, rfl⟩
      go_wp2_with fail
      go_ret2
      rw [HE.out]
      exact ⟨P, G, some ⟨B, 0, none⟩, 2, rfl, HZ4.out⟩
    · rw [two0_ok] at hnb
      cases hnb
end Go.Proofs.Ytclkcpdghpaboaa
