/-
  Layer 14, RouteAny: two tables, the list of routes, the route x in its box, side by side; append inside a fence that tells where its row lies; what All's body leaves as it was.
-/
import Derived.Test.YtdjbfhllialinaaDoorRtSm
namespace Go.Proofs.YtdjbfhllialinaaDoor
open Go.RowKit Go.Maps

theorem TS.base {w w0 : World} {t M : Nat} {R : List RV} {A : World} (h : TS w0 t M R A) (hb : Below w.heap.size w w0) (hs : Spe8 w) : TS w t M R A :=
  ⟨h.tab, bthen hb h.bel, h.spe, Nat.le_trans hb.size h.tl, Nat.le_trans hb.size h.ml, hs.lt⟩
theorem TS.addz {w : World} {t M : Nat} {R R' : List RV} {A : World} (h : TS w t M R A) (r : RV) (hw : ROk r) (hl : R.length ≤ 100000) (he : addE R r = 0) (hR : addR R r = R') : Calls Tryd.prog 6 #[.pointer (some ⟨t, 0, none⟩), .agg (rtC r)] A fun e A' => e = .returned (.int .i64 0) ∧ TS w t M R' A' ∧ Ch (fun q => q = M) A A' := by
  refine (h.add r hw.1 hw.2 hl).mono ?_
  rintro e A' ⟨rfl, h1, h2⟩
  subst hR
  exact ⟨by rw [he]; rfl, h1, h2⟩
structure RA (w : World) (t M u Mu B4 : Nat) (Rt Ru L : List RV) (v : Value) (x : RV) (A : World) : Prop where
  ft : TS w t M Rt A
  fu : TS w u Mu Ru A
  li : RL A w.heap.size v L
  bx : RteAt A B4 x
  n1 : t ≠ Mu ∧ M ≠ Mu ∧ u ≠ M ∧ B4 ≠ M ∧ B4 ≠ Mu ∧ B4 ≠ t ∧ B4 ≠ u
  n2 : ∀ g, v.ownBlock = some g → g ≠ M ∧ g ≠ Mu ∧ g ≠ B4
  b4 : w.heap.size ≤ B4
section
variable {w : World} {t M u Mu B4 : Nat} {Rt Ru L : List RV} {v : Value} {x : RV} {A A' : World} (h : RA w t M u Mu B4 Rt Ru L v x A)
include h
theorem RA.below (b : Below A.heap.size A A') : RA w t M u Mu B4 Rt Ru L v x A' :=
  { h with ft := h.ft.below b, fu := h.fu.below b, li := h.li.below b, bx := RteAt.below h.bx b }
theorem RA.addT {Rt' : List RV} (k : Ch (fun q => q = M) A A') (ht : TS w t M Rt' A') : RA w t M u Mu B4 Rt' Ru L v x A' :=
  { h with ft := ht, fu := h.fu.far k (fun e => h.n1.2.2.1 e) (fun e => h.n1.2.1 e.symm) (fun q e => by have e' : q = M := e; rw [e']; exact h.ft.ml), li := h.li.ch k (fun g hg e => (h.n2 g hg).1 e), bx := RteAt.ch h.bx k (fun e => h.n1.2.2.2.1 e) }
theorem RA.addU {Ru' : List RV} (k : Ch (fun q => q = Mu) A A') (ht : TS w u Mu Ru' A') : RA w t M u Mu B4 Rt Ru' L v x A' :=
  { h with fu := ht, ft := h.ft.far k (fun e => h.n1.1 e) (fun e => h.n1.2.1 e) (fun q e => by have e' : q = Mu := e; rw [e']; exact h.fu.ml), li := h.li.ch k (fun g hg e => (h.n2 g hg).2.1 e), bx := RteAt.ch h.bx k (fun e => h.n1.2.2.2.2.1 e) }
theorem RA.setX {x' : RV} (k : Ch (fun q => q = B4) A A') (hx : RteAt A' B4 x') : RA w t M u Mu B4 Rt Ru L v x' A' :=
  { h with ft := h.ft.far k (fun e => h.n1.2.2.2.2.2.1 e.symm) (fun e => h.n1.2.2.2.1 e.symm) (fun q e => by have e' : q = B4 := e; rw [e']; exact h.b4), fu := h.fu.far k (fun e => h.n1.2.2.2.2.2.2 e.symm) (fun e => h.n1.2.2.2.2.1 e.symm) (fun q e => by have e' : q = B4 := e; rw [e']; exact h.b4), li := h.li.ch k (fun g hg e => (h.n2 g hg).2.2 e), bx := hx }
end
/-- append inside a fence, and where the new row lies -/
theorem wpListIn_app2 {F : Fence} {n : Nat} {ops : Array Oper} {rest : List Oper} {o : Oper} {a : Act} {w : World} {Q : Exit → Act → World → Prop} (hgd : o.guard = none) (s x : Operand) (ho : o.op = .call { callee := .builtin .append, args := #[s, x], argTypes := #[22, 22] })
    (base : Nat) (v : Value) (L : List RV) (hs : a.eval s = v) (hown : RL w base v L) (B : Nat) (r : RV) (hx : a.eval x = .slice (some ⟨B, 0, none⟩) 1 1) (hB : RteAt w B r) (hL : L.length ≤ 100000) (hbase : base ≤ w.heap.size)
    (h : ∀ v' w', RL w' base v' (L ++ [r]) → w.grownBy w' v.ownBlock → (v'.ownBlock = v.ownBlock ∨ v'.ownBlock = some w.heap.size) → wpListIn F n Tryd.prog ops Q rest (a.put o.dst v') w') : wpListIn F n Tryd.prog ops Q (o :: rest) a w := by
  obtain ⟨i, z, hi, hz0, hz1, hz2, hz3⟩ := Tryd.infoR
  refine wpListIn_plain hgd fun K hK' => ?_
  obtain ⟨v', w', hrun, r1, r2, _, r4⟩ := run_append_own_at (P := Tryd.prog) w base 22 o.type 29 i z 36 i.bytes Tryd.underlying22 hi hz0 hz1 rfl hz2 (by decide) v L.length (rcs L) hown ⟨B, 0, none⟩ 1 1 (rtC r).toList (by rw [rtC_len]) (by
    intro j y hj
    rw [Addr.add_lit, Nat.zero_add, RteAt.cell hB j]
    simpa using hj) (rtC_one r) (by unfold maxLen; omega) (Nat.le_trans (Nat.mul_le_mul (show L.length + 1 ≤ 100001 by omega) hz3) (by decide)) hbase
  unfold Oper.wpIn
  refine ⟨?_, ?_⟩
  · simp [Oper.about, ho, resolve, Target.leads, Sem.run_pure]
  · rw [Oper.semAt_plain F _ _ (by rw [ho]; intro c hc'; cases hc')]
    simp [execOp, ho, resolve, invoke, builtin, hs, hx, hrun, Result.andThen]
    refine hK' _ _ (h v' w' ?_ r2 r4)
    show w'.ownsRow base 29 36 v' (L ++ [r]).length (rcs (L ++ [r]))
    rw [rcs_app, rcs_one, List.length_append]
    exact r1
/-- a list gathered in the cell O, in a row of its own behind Lo; all below Lo but O as in Y -/
structure PB (Y : World) (O Lo : Nat) (v : Value) (L : List RV) (A : World) : Prop where
  cl : A.cell? ⟨O, 0, none⟩ = some v
  fb : A.frozen? ⟨O, 0, none⟩ = false
  li : RL A Lo v L
  ch : Ch (fun q => q = O ∨ Lo ≤ q) Y A
  lo : O < Lo
  sz : Lo ≤ Y.heap.size
theorem PB.grown {Y : World} {O Lo : Nat} {v : Value} {L : List RV} {A A' : World} {S : Nat → Prop} (h : PB Y O Lo v L A) (k : Ch S A A') (hS : ∀ q, S q → Lo ≤ q) (hC : ∀ q, S q → ∀ o : Obj, A.heap[q]? = some o → o.isCells = false) : PB Y O Lo v L A' := by
  have hlo := h.lo
  have nO : ¬ S O := fun e => by have := hS O e; omega
  refine ⟨k.cell h.cl nO, (k.frozen (p := ⟨O, 0, none⟩) (World.block_lt_of_cell? A _ h.cl) nO).trans h.fb, h.li.ch k (fun g hg hs => ?_), h.ch.trans k (fun q _ e => .inr (hS q e)), hlo, h.sz⟩
  obtain ⟨_, _, o, h1, h2⟩ := h.li.cells g hg
  rw [hC g hs o h1] at h2
  cases h2
theorem PB.below {Y : World} {O Lo : Nat} {v : Value} {L : List RV} {A A' : World} (h : PB Y O Lo v L A) (b : Below A.heap.size A A') : PB Y O Lo v L A' := h.grown (Ch.ofBelow (S := fun _ => False) b) (fun _ h => h.elim) (fun _ h => h.elim)
theorem KO.below {O : Nat} {A B : World} (b : Below A.heap.size A B) (hO : O < A.heap.size) : KO O A B :=
  ⟨b.size, fun q o ho _ _ _ => (b.block q (Array.getElem?_eq_some_iff.1 ho).1).trans ho, fun v q hv hq => .inr ⟨v, by rw [b.cell (p := ⟨O, 0, none⟩) hO] at hv; exact hv, hq⟩⟩
/-- one more: appended, and the slice stored in its cell -/
theorem PB.put {Y : World} {O Lo : Nat} {v v' : Value} {L L' : List RV} {A B C : World} (h : PB Y O Lo v L A) (b : Below A.heap.size A B) (hg : B.grownBy C v.ownBlock) (hl : RL C Lo v' L') (hv : v'.ownBlock = v.ownBlock ∨ v'.ownBlock = some B.heap.size) :
    PB Y O Lo v' L' (C.setCell ⟨O, 0, none⟩ v') ∧ KO O A (C.setCell ⟨O, 0, none⟩ v') ∧ C.cell? ⟨O, 0, none⟩ = some v ∧ C.frozen? ⟨O, 0, none⟩ = false ∧ KeepsFrom Lo A (C.setCell ⟨O, 0, none⟩ v') := by
  have hB := h.below b
  have k := Ch.ofGrown hg
  have hlo := h.lo
  have hc := hB.li.cells
  have nO : ¬ v.ownBlock = some O := fun e => by have := (hc O e).1; omega
  have c1 : C.cell? ⟨O, 0, none⟩ = some v := k.cell hB.cl nO
  have f1 : C.frozen? ⟨O, 0, none⟩ = false := (k.frozen (p := ⟨O, 0, none⟩) (World.block_lt_of_cell? B _ hB.cl) nO).trans hB.fb
  have kT : Ch (fun q => q = O) C (C.setCell ⟨O, 0, none⟩ v') := (Ch.refl (fun q => q = O) C).set _ _ rfl
  have c2 : (C.setCell ⟨O, 0, none⟩ v').cell? ⟨O, 0, none⟩ = some v' := World.cell?_setCell_same _ _ _ c1
  have hOA : O < A.heap.size := World.block_lt_of_cell? A _ h.cl
  refine ⟨⟨c2, by rw [World.frozen?_setCell]; exact f1, hl.ch kT (fun g hg' e => by have e' : g = O := e; have := (hl.cells g hg').1; omega), (hB.ch.trans k (fun q _ e => .inr (hc q e).1)).trans kT (fun q _ e => .inl e), hlo, h.sz⟩, ⟨?_, ?_, ?_⟩, c1, f1, ?_⟩
  · exact Nat.le_trans b.size (Nat.le_trans k.size kT.size)
  · intro q o ho hco hne hown
    have hq := (Array.getElem?_eq_some_iff.1 ho).1
    have e1 := (b.block q hq).trans ho
    have e2 := (k.block q (Nat.lt_of_lt_of_le hq b.size) (fun e => hown v h.cl e)).trans e1
    exact (kT.block q (Nat.lt_of_lt_of_le hq (Nat.le_trans b.size k.size)) (fun e => hne e)).trans e2
  · intro u q hu hq
    rw [c2] at hu
    cases hu
    rcases hv with e | e
    · exact .inr ⟨v, h.cl, by rw [← e]; exact hq⟩
    · rw [e] at hq
      cases hq
      exact .inl b.size
  · exact (kf_below b).trans ((kf_ch k (fun q _ e => (hc q e).2.2)).trans (kf_ch kT (fun q _ e => by have e' : q = O := e; subst e'; exact cells_of_cell c1)))
end Go.Proofs.YtdjbfhllialinaaDoor
