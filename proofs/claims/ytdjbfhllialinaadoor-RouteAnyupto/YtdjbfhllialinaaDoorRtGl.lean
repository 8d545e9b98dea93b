/-
  Layer 14: lists of structs, in memory of one's own or handed in; append of the one to the other.
-/
import Derived.Test.YtdjbfhllialinaaDoorRtMta
import Derived.Test.YtdjbfhllialinaaDoorOpenG
namespace Go.Proofs.YtdjbfhllialinaaDoor
open Go.RowKit Go.Maps

section
variable {α : Type} (K : Nat) (cells : α → List Value)
theorem fmc_len (hcl : ∀ o, (cells o).length = K) (L : List α) : (L.flatMap cells).length = L.length * K := by
  induction L with
  | nil => simp
  | cons r L ih => rw [List.flatMap_cons, List.length_append, ih, hcl, List.length_cons, Nat.succ_mul, Nat.add_comm]
theorem fmc_get (hcl : ∀ o, (cells o).length = K) (L : List α) (i : Nat) (r : α) (h : L[i]? = some r) (j : Nat) (hj : j < K) : (L.flatMap cells)[i * K + j]? = (cells r)[j]? := by
  induction L generalizing i with
  | nil => simp at h
  | cons s L ih =>
    rw [List.flatMap_cons]
    cases i with
    | zero =>
      simp only [List.getElem?_cons_zero, Option.some.injEq] at h
      subst h
      rw [Nat.zero_mul, Nat.zero_add, List.getElem?_append_left (by rw [hcl]; exact hj)]
    | succ i =>
      simp only [List.getElem?_cons_succ] at h
      rw [List.getElem?_append_right (by rw [hcl, Nat.succ_mul]; omega), hcl, show (i + 1) * K + j - K = i * K + j by rw [Nat.succ_mul]; omega]
      exact ih i h
def GL (e : TypeId) (w : World) (base : Nat) (v : Value) (L : List α) : Prop := w.ownsRow base e K v L.length (L.flatMap cells)
variable {K cells}
/-- a list of one's own, read as one that is handed in -/
theorem GL.listG {e : TypeId} {w : World} {base : Nat} {v : Value} {L : List α} {ok : α → Prop} (h : GL K cells e w base v L) (hcl : ∀ o, (cells o).length = K) (hok : ∀ o ∈ L, ok o) : ∃ va vc, v = .slice va L.length vc ∧ ListG K cells ok w va L := by
  rcases h.2 with ⟨rfl, h0⟩ | ⟨g, cap, cur, rfl, hb, hg, hnc, hcm, hcs, ht⟩
  · have : L = [] := List.eq_nil_of_length_eq_zero h0
    exact ⟨none, 0, by rw [h0], .inl this⟩
  · refine ⟨some ⟨g, 0, none⟩, cap, rfl, .inr ⟨g, 0, rfl, (Array.getElem?_eq_some_iff.1 hg).1, fun i o ho => ⟨hok o (List.mem_of_getElem? ho), fun j hj => ?_⟩⟩⟩
    have hj' : j < (cells o).length := by rw [hcl]; exact hj
    have hc := h.cells rfl (i * K + j) ((cells o)[j]) (by rw [fmc_get K cells hcl L i o ho j hj]; exact List.getElem?_eq_getElem hj')
    rw [Addr.add_lit, Nat.zero_add] at hc
    rw [Nat.zero_add, hc, List.getElem?_eq_getElem hj']
/-- append of a list that was handed in -/
theorem wpList_appG {ops : Array Oper} {rest : List Oper} {o : Oper} {a : Act} {w : World} {Q : Exit → Act → World → Prop} (hcl : ∀ o, (cells o).length = K) (h1c : ∀ o, ∀ u ∈ cells o, u.oneCell' = true) (hK : 0 < K) (hgd : o.guard = none) (s x : Operand) (t e : TypeId) (ho : o.op = .call { callee := .builtin .append, args := #[s, x], argTypes := #[t, t] })
    (ht : Tryd.prog.underlying t = some (.slice e)) (hinfo : ∃ i z, Tryd.prog.info? e = some i ∧ i.zero = some z ∧ i.size = K ∧ z.cells.size = K ∧ i.bytes ≤ 1000)
    (base : Nat) (v : Value) (L : List α) (hs : a.eval s = v) (hown : GL K cells e w base v L) (ok : α → Prop) (la : Option Addr) (lc : Nat) (rs : List α) (hx : a.eval x = .slice la rs.length lc) (hG : ListG K cells ok w la rs) (hL : L.length ≤ 100000) (hR : rs.length ≤ 1048576) (hbase : base ≤ w.heap.size)
    (h : ∀ v' w', GL K cells e w' base v' (L ++ rs) → w.grownBy w' v.ownBlock → (v'.ownBlock = v.ownBlock ∨ v'.ownBlock = some w.heap.size) → wpList Tryd.prog ops Q rest (a.put o.dst v') w') : wpList Tryd.prog ops Q (o :: rest) a w := by
  obtain ⟨i, z, hi, hz0, hz1, hz2, hz3⟩ := hinfo
  cases la with
  | none =>
    have hr0 : rs = [] := by
      rcases hG with h0 | ⟨b, off, hb, _⟩
      · exact h0
      · cases hb
    subst hr0
    refine wpList_plain hgd fun Kk hKk => ?_
    have hrun := run_append_nil (P := Tryd.prog) (w := w) base t o.type e i K ht hi v L.length lc (L.flatMap cells) hown
    unfold Oper.wp
    simp only [List.length_nil] at hx
    simp [execOp, ho, resolve, invoke, builtin, hs, hx, hrun, Result.andThen]
    exact hKk _ _ (h v w (by simpa using hown) ⟨rfl, rfl, rfl, Nat.le_refl _, fun _ _ _ => rfl⟩ (.inl rfl))
  | some ad =>
    refine wpList_append_own_at w hgd s x t ho base e i z K i.bytes ht hi hz0 hz1 rfl hz2 hK v L.length (L.flatMap cells) hs hown ad rs.length lc (rs.flatMap cells) hx (fmc_len K cells hcl rs) ?_ ?_ (by unfold maxLen; omega) ?_ hbase ?_
    · intro j u hj
      rcases hG with h0 | ⟨b, off, hb, hlt, hc⟩
      · subst h0; simp at hj
      · cases hb
        have hjl := (List.getElem?_eq_some_iff.1 hj).1
        rw [fmc_len K cells hcl] at hjl
        have hq : j / K < rs.length := (Nat.div_lt_iff_lt_mul hK).2 hjl
        have hm : j % K < K := Nat.mod_lt _ hK
        have hoq : rs[j / K]? = some rs[j / K] := List.getElem?_eq_getElem hq
        have e1 : j / K * K + j % K = j := by rw [Nat.mul_comm]; exact Nat.div_add_mod j K
        have e2 := fmc_get K cells hcl rs (j / K) _ hoq (j % K) hm
        rw [e1, hj] at e2
        have e3 := (hc (j / K) _ hoq).2 (j % K) hm
        rw [Nat.add_assoc, e1] at e3
        rw [Addr.add_lit, e3, ← e2]
    · intro u hu
      obtain ⟨o', _, hu'⟩ := List.mem_flatMap.1 hu
      exact h1c o' u hu'
    · calc (L.length + rs.length) * i.bytes ≤ 1148576 * 1000 := Nat.mul_le_mul (by omega) hz3
        _ ≤ _ := by decide
    · intro v' w' q1 q2 _ q4
      refine h v' w' ?_ q2 q4
      show w'.ownsRow base e K v' (L ++ rs).length ((L ++ rs).flatMap cells)
      rw [List.flatMap_append, List.length_append]
      exact q1
end
theorem RL_GL {w : World} {base : Nat} {v : Value} {L : List RV} : RL w base v L ↔ GL 36 (fun r => (rtC r).toList) 29 w base v L := Iff.rfl
structure IV where
  V : Int
  x : Nat → Nat
def ivC (i : IV) : List Value := (ipCells i.V i.x).toList
theorem ivC_len (i : IV) : (ivC i).length = 17 := rfl
theorem ivC_one (i : IV) : ∀ u ∈ ivC i, u.oneCell' = true := by simp [ivC, ipCells, Value.oneCell']
def ROk (r : RV) : Prop := r.p.Wf ∧ ∀ i, i < 16 → r.y i < 256
def IOk (i : IV) : Prop := (Lit.int .i64 i.V).wf = true ∧ ∀ j, j < 16 → i.x j < 256
theorem Tryd.infoI : ∃ i z, Tryd.prog.info? 25 = some i ∧ i.zero = some z ∧ i.size = 17 ∧ z.cells.size = 17 ∧ i.bytes ≤ 1000 := by
  have h : (Tryd.prog.info? 25).any (fun i => i.zero.any (fun z => i.size == 17 && z.cells.size == 17 && decide (i.bytes ≤ 1000))) = true := by kernel_rfl
  cases hi : Tryd.prog.info? 25 with
  | none => rw [hi] at h; simp at h
  | some i =>
    rw [hi] at h
    cases hz : i.zero with
    | none => rw [Option.any_some, hz] at h; simp at h
    | some z =>
      rw [Option.any_some, hz, Option.any_some] at h
      simp only [Bool.and_eq_true, beq_iff_eq, decide_eq_true_eq] at h
      exact ⟨i, z, rfl, hz, h.1.1, h.1.2, h.2⟩
theorem run_bsi (V : Int) (x : Nat → Nat) (w : World) : (Instr.buildSlice 30 1 #[(0, .agg (ipCells V x))]).run Tryd.prog w = .ok (.slice (some ⟨w.heap.size, 0, none⟩) 1 1) (w.alloc (.cells (ipCells V x) 25)) := by kernel_rfl
theorem wpList_bsi {ops : Array Oper} {rest : List Oper} {o : Oper} {a : Act} {w : World} {Q : Exit → Act → World → Prop} (x : Operand) (ho : o.op = .buildSlice 30 1 #[(0, x)]) (V : Int) (f : Nat → Nat) (hx : a.eval x = .agg (ipCells V f)) (hw : Region.wanted o (yielded ops a.tmps) = true)
    (h : wpList Tryd.prog ops Q rest (a.put o.dst (.slice (some ⟨w.heap.size, 0, none⟩) 1 1)) (w.alloc (.cells (ipCells V f) 25))) : wpList Tryd.prog ops Q (o :: rest) a w := by
  refine wpList_step fun K hK => ?_
  rw [if_pos hw]
  unfold Oper.wp execOp
  simp only [ho, Sem.run_bind, List.map_toArray, List.map_cons, List.map_nil, hx, run_bsi V f w, Result.andThen_ok]
  exact hK _ _ h
theorem GL.new1 {α : Type} {cells : α → List Value} (w : World) (e : TypeId) (K : Nat) (c : Array Value) (o : α) (hc : cells o = c.toList) (hK : c.size = K) : GL K cells e (w.alloc (.cells c e)) w.heap.size (.slice (some ⟨w.heap.size, 0, none⟩) 1 1) [o] := by
  have e1 : ([o] : List α).flatMap cells = c.toList := by simp [hc]
  refine ⟨by rw [e1]; simp [hK], .inr ⟨w.heap.size, 1, c, rfl, Nat.le_refl _, heap_alloc_new _ _, Nat.le_refl _, by decide, by rw [hK, Nat.one_mul], ?_⟩⟩
  rw [e1, List.take_of_length_le (by simp [hK])]
end Go.Proofs.YtdjbfhllialinaaDoor
