/-
  Layer 18, QueueEven's own: even.
-/
import Derived.Test.YtclkcpdghpaboaaQEr
import Derived.Test.YtclkcpdghpaboaaQFr
namespace Go.Proofs.Ytclkcpdghpaboaa
open Go.RowKit Go.ChangeShapes Go.WideShapes

def prA (x : Int × Int) : Array Value := #[.int .i64 x.1, .int .i64 x.2]
def prL (x : Int × Int) : List Value := (prA x).toList
theorem prL_len (x : Int × Int) : (prL x).length = 2 := rfl
theorem prL_one (x : Int × Int) : ∀ u ∈ prL x, u.oneCell' = true := by simp [prL, prA, Value.oneCell']
theorem info_pr : Info 106 2 := info_of (by kernel_rfl)
theorem run_bpz (w : World) : (Instr.build 106 #[]).run Try.prog w = .ok (.agg (prA (0, 0))) w := by kernel_rfl
theorem wpList_bpz {ops : Array Oper} {rest : List Oper} {o : Oper} {a_ : Act} {w : World} {Q : Exit → Act → World → Prop} (ho : o.op = .build 106 #[]) (hw : Region.wanted o (yielded ops a_.tmps) = true)
    (h : wpList Try.prog ops Q rest (a_.put o.dst (.agg (prA (0, 0)))) w) : wpList Try.prog ops Q (o :: rest) a_ w := by
  refine wpList_step fun K hK => ?_
  rw [if_pos hw]
  have hrun : (execOp a_.eval o).run Try.prog w = .ok (.value (.agg (prA (0, 0)))) w := by
    obtain ⟨dst, op, type, pos, after, guard⟩ := o
    simp only at ho
    subst ho
    simp only [execOp, Sem.run_bind, List.map_toArray, List.map_nil, run_bpz w, Result.andThen_ok]
    rfl
  unfold Oper.wp
  rw [hrun]
  exact hK _ _ h
theorem flat2 (f : Nat) (hf : f < 2) (u : Value) (x' : Int × Int) : ∀ (L : List (Int × Int)) (i : Nat) (x : Int × Int), L[i]? = some x → (prL x).set f u = prL x' → (L.flatMap prL).set (i * 2 + f) u = (L.set i x').flatMap prL := by
  intro L
  induction L with
  | nil => intro i x hx; simp at hx
  | cons s L ih =>
    intro i x hx hu
    cases i with
    | zero =>
      simp only [List.getElem?_cons_zero, Option.some.injEq] at hx
      subst hx
      rw [List.set_cons_zero, List.flatMap_cons, List.flatMap_cons, Nat.zero_mul, Nat.zero_add, List.set_append_left _ _ (by rw [prL_len]; exact hf), hu]
    | succ i =>
      simp only [List.getElem?_cons_succ] at hx
      rw [List.set_cons_succ, List.flatMap_cons, List.flatMap_cons, List.set_append_right _ _ (by rw [prL_len]; omega), prL_len, show (i + 1) * 2 + f - 2 = i * 2 + f by omega, ih i x hx hu]
theorem GL.cell2 {w : World} {base g n cap : Nat} {L : List (Int × Int)} (h : GL 2 prL 106 w base (.slice (some ⟨g, 0, none⟩) n cap) L) (f : Nat) (hf : f < 2) {i : Nat} {x x' : Int × Int} {u : Value} (hx : L[i]? = some x) (hu : (prL x).set f u = prL x') : GL 2 prL 106 (w.setCell ⟨g, i * 2 + f, none⟩ u) base (.slice (some ⟨g, 0, none⟩) n cap) (L.set i x') := by
  have hn := h.len
  have h2 : w.ownsRow base 106 2 (.slice (some ⟨g, 0, none⟩) n cap) n (L.flatMap prL) := by have h0 := h; unfold GL at h0; rw [← hn] at h0; exact h0
  have h3 := (h2.stored (i * 2 + f) u).1
  rw [flat2 f hf u x' L i x hx hu] at h3
  show World.ownsRow _ base _ 2 _ (L.set i x').length _
  rw [List.length_set, ← hn]
  exact h3
/-- a pair behind a Pop -/
def evP (was is : List Bool) (n c : Nat) (size : Int) (ps : List (Int × Int)) (k : Nat) : Int × Int :=
  if was.getD (k / n) false && (was.getD (k % n) false && (is.getD (k / n) false && is.getD (k % n) false)) then ((ps.getD k (0, 0)).1 + (if k / n = c then size else 0), (ps.getD k (0, 0)).2 + (if k % n = c then size else 0)) else (0, 0)
def evL (was is : List Bool) (n c : Nat) (size : Int) (ps : List (Int × Int)) : List (Int × Int) := (List.range ps.length).map (evP was is n c size ps)
/-- half way -/
def evS (E ps : List (Int × Int)) (k : Nat) : List (Int × Int) := E.take k ++ ps.drop k
theorem evS_at {E ps : List (Int × Int)} {k : Nat} (hl : E.length = ps.length) (hk : k < ps.length) : (evS E ps k)[k]? = ps[k]? := by
  unfold evS
  rw [List.getElem?_append_right (by rw [List.length_take]; omega), List.length_take, Nat.min_eq_left (by omega), Nat.sub_self, List.getElem?_drop, Nat.add_zero]
theorem evS_set {E ps : List (Int × Int)} {k : Nat} {x : Int × Int} (hl : E.length = ps.length) (hk : k < ps.length) (hx : E[k]? = some x) : (evS E ps k).set k x = evS E ps (k + 1) := by
  have hk' : k < E.length := by omega
  unfold evS
  rw [List.set_append_right _ _ (by rw [List.length_take]; omega), List.length_take, Nat.min_eq_left (by omega), Nat.sub_self, List.drop_eq_getElem_cons hk, List.set_cons_zero, List.take_add_one, hx, List.append_assoc]
  rfl
theorem evS_len {E ps : List (Int × Int)} {k : Nat} (hl : E.length = ps.length) : (evS E ps k).length = ps.length := by
  unfold evS
  rw [List.length_append, List.length_take, List.length_drop]
  omega
theorem idx_lt {i j n : Nat} (hi : i < n) (hj : j < n) : i * n + j < n * n := by
  calc i * n + j < i * n + n := by omega
    _ = (i + 1) * n := by rw [Nat.succ_mul]
    _ ≤ n * n := Nat.mul_le_mul_right n (by omega)
theorem idx_div {i j n : Nat} (hj : j < n) : (i * n + j) / n = i := by
  have hn : 0 < n := by omega
  rw [Nat.mul_comm, Nat.mul_add_div hn, Nat.div_eq_of_lt hj, Nat.add_zero]
theorem idx_mod {i j n : Nat} (hj : j < n) : (i * n + j) % n = j := by rw [Nat.mul_comm, Nat.mul_add_mod, Nat.mod_eq_of_lt hj]
end Go.Proofs.Ytclkcpdghpaboaa
