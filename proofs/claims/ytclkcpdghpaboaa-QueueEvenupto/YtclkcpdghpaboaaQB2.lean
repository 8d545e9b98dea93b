/-
  Layer 18: the caller's book in memory; an empty one.
-/
import Derived.Test.YtclkcpdghpaboaaQB1
namespace Go.Proofs.Ytclkcpdghpaboaa
open Go.RowKit Go.ChangeShapes Go.WideShapes

/-- a class's row of the book: its line (where, what), its bytes, what was served -/
structure BM where
  a : Option Addr
  c : Nat
  M : List (Int × Int)
  b : Int
  s : Int
def BM.v (m : BM) : Value := .slice m.a m.M.length m.c
def m0 : BM := ⟨none, 0, [], 0, 0⟩
def bmV (m : BM) : List Value := [m.v]
def bmB (m : BM) : List Value := [.int .i64 m.b]
def bmS (m : BM) : List Value := [.int .i64 m.s]
theorem bmV_len (m : BM) : (bmV m).length = 1 := rfl
theorem bmB_len (m : BM) : (bmB m).length = 1 := rfl
theorem bmS_len (m : BM) : (bmS m).length = 1 := rfl
theorem bmV_one (m : BM) : ∀ u ∈ bmV m, u.oneCell' = true := by simp [bmV, BM.v, Value.oneCell']
theorem bmB_one (m : BM) : ∀ u ∈ bmB m, u.oneCell' = true := by simp [bmB, Value.oneCell']
theorem bmS_one (m : BM) : ∀ u ∈ bmS m, u.oneCell' = true := by simp [bmS, Value.oneCell']
theorem info_in : Info 3 1 := info_of (by kernel_rfl)
theorem info_ls : Info 37 1 := info_of (by kernel_rfl)
def boA (l b s : Value) : Array Value := #[l, b, s]
def BovAt (w : World) (B : Nat) (l b s : Value) : Prop := w.heap[B]? = some (.cells (boA l b s) 40 (0, 0))
section
variable {w : World} {B : Nat} {l b s : Value} (k : BovAt w B l b s)
include k
theorem BovAt.lt : B < w.heap.size := (Array.getElem?_eq_some_iff.1 k).1
theorem BovAt.ch {S : Nat → Prop} {w' : World} (c : Ch S w w') (hS : ¬ S B) : BovAt w' B l b s := (c.block B k.lt hS).trans k
theorem BovAt.below {w' : World} (c : Below w.heap.size w w') : BovAt w' B l b s := (c.block B k.lt).trans k
theorem BovAt.cell (i : Nat) : w.cell? ⟨B, i, none⟩ = (boA l b s)[i]? := by unfold BovAt at k; simp [World.cell?, k]
theorem BovAt.fz (j : Nat) : w.frozen? ⟨B, j, none⟩ = false := by unfold BovAt at k; simp [World.frozen?, k]
theorem BovAt.set (i : Nat) (u l' b' s' : Value) (he : (boA l b s).setIfInBounds i u = boA l' b' s') : BovAt (w.setCell ⟨B, i, none⟩ u) B l' b' s' := by
  unfold BovAt at k ⊢
  rw [heap_setCell_same _ _ _ _ _ _ k, he]
end
theorem tk_ne {w : World} {q : Nat} {c c' : Array Value} {ty ty' : TypeId} (h : w.heap[q]? = some (.cells c ty (0, 0))) (h' : w.heap[q]? = some (.cells c' ty' (0, 0))) (hne : ty ≠ ty') : False := by
  rw [h] at h'
  simp only [Option.some.injEq, Obj.cells.injEq] at h'
  exact hne h'.2.1
/-- the book in memory, all of it behind N -/
structure BK (N : Nat) (w : World) (B : Nat) (lv bv sv : Value) (ms : List BM) : Prop where
  lo : N ≤ B
  at' : BovAt w B lv bv sv
  l : GL 1 bmV 37 w N lv ms
  by' : GL 1 bmB 3 w N bv ms
  s : GL 1 bmS 3 w N sv ms
  ne : ∀ q, bv.ownBlock = some q → sv.ownBlock ≠ some q
  ln : ∀ m ∈ ms, Ln N w m.v m.M
  ap : ∀ (i j : Nat) (x y : BM), ms[i]? = some x → ms[j]? = some y → i ≠ j → ∀ q, x.v.ownBlock = some q → y.v.ownBlock ≠ some q
def BB (B : Nat) (lv bv sv : Value) (ms : List BM) (q : Nat) : Prop := q = B ∨ lv.ownBlock = some q ∨ bv.ownBlock = some q ∨ sv.ownBlock = some q ∨ ∃ m ∈ ms, m.v.ownBlock = some q
section
variable {N : Nat} {w w' : World} {B : Nat} {lv bv sv : Value} {ms : List BM}
/-- what kind each of its blocks is of -/
theorem BK.kind (h : BK N w B lv bv sv ms) {q : Nat} (hq : BB B lv bv sv ms q) : N ≤ q ∧ q < w.heap.size ∧ ∃ cc ty, w.heap[q]? = some (.cells cc ty (0, 0)) ∧ ty ≠ 104 ∧ ty ≠ 98 ∧ ty ≠ 119 ∧ ty ≠ 36 ∧ ty ≠ 43 := by
  rcases hq with rfl | hq | hq | hq | ⟨m, hm, hq⟩
  · exact ⟨h.lo, h.at'.lt, _, _, h.at', by decide, by decide, by decide, by decide, by decide⟩
  · obtain ⟨h1, h2, c, h3⟩ := h.l.kind q hq
    exact ⟨h1, h2, _, _, h3, by decide, by decide, by decide, by decide, by decide⟩
  · obtain ⟨h1, h2, c, h3⟩ := h.by'.kind q hq
    exact ⟨h1, h2, _, _, h3, by decide, by decide, by decide, by decide, by decide⟩
  · obtain ⟨h1, h2, c, h3⟩ := h.s.kind q hq
    exact ⟨h1, h2, _, _, h3, by decide, by decide, by decide, by decide, by decide⟩
  · obtain ⟨h1, h2, c, h3⟩ := (h.ln m hm).kind hq
    exact ⟨h1, h2, _, _, h3, by decide, by decide, by decide, by decide, by decide⟩
theorem BK.ch {S : Nat → Prop} (h : BK N w B lv bv sv ms) (k : Ch S w w') (hS : ∀ q, BB B lv bv sv ms q → ¬ S q) : BK N w' B lv bv sv ms :=
  ⟨h.lo, h.at'.ch k (hS B (.inl rfl)), h.l.ch k (fun q hq => hS q (.inr (.inl hq))), h.by'.ch k (fun q hq => hS q (.inr (.inr (.inl hq)))), h.s.ch k (fun q hq => hS q (.inr (.inr (.inr (.inl hq))))), h.ne, fun m hm => (h.ln m hm).ch k (fun q hq => hS q (.inr (.inr (.inr (.inr ⟨m, hm, hq⟩))))), h.ap⟩
theorem BK.below (h : BK N w B lv bv sv ms) (k : Below w.heap.size w w') : BK N w' B lv bv sv ms := h.ch (Ch.ofBelow (S := fun _ => False) k) (fun _ _ => id)
theorem BovAt.kp {l b s : Value} (h : BovAt w B l b s) (k : Kp w w') : BovAt w' B l b s := k.block B _ _ h (by decide) (by decide) (by decide)
theorem BK.kp (h : BK N w B lv bv sv ms) (k : Kp w w') : BK N w' B lv bv sv ms :=
  ⟨h.lo, h.at'.kp k, k.gl h.l (by decide) (by decide) (by decide), k.gl h.by' (by decide) (by decide) (by decide), k.gl h.s (by decide) (by decide) (by decide), h.ne, fun m hm => (h.ln m hm).kp k, h.ap⟩
theorem Ln.mono {v : Value} {M : List (Int × Int)} {N' : Nat} (h : Ln N w v M) (hN : N' ≤ N) : Ln N' w v M := by
  rcases h with h | ⟨g, off, c, cc, rfl, h0, r⟩
  · exact .inl h
  · exact .inr ⟨g, off, c, cc, rfl, Nat.le_trans hN h0, r⟩
theorem BK.mono {N' : Nat} (h : BK N w B lv bv sv ms) (hN : N' ≤ N) : BK N' w B lv bv sv ms := ⟨Nat.le_trans hN h.lo, h.at', h.l.mono hN, h.by'.mono hN, h.s.mono hN, h.ne, fun m hm => (h.ln m hm).mono hN, h.ap⟩
theorem flat_set {α : Type} {cells : α → List Value} {L : List α} {i : Nat} {m m' : α} (hi : L[i]? = some m) (hc : cells m' = cells m) : (L.set i m').flatMap cells = L.flatMap cells := by
  induction L generalizing i with
  | nil => simp at hi
  | cons x L ih =>
    cases i with
    | zero =>
      simp only [List.getElem?_cons_zero, Option.some.injEq] at hi
      subst hi
      simp [List.flatMap_cons, hc]
    | succ i =>
      simp only [List.getElem?_cons_succ] at hi
      rw [List.set_cons_succ, List.flatMap_cons, List.flatMap_cons, ih hi]
theorem GL.same {α : Type} {K : Nat} {cells : α → List Value} {e : TypeId} {base : Nat} {v : Value} {L : List α} {i : Nat} {m m' : α} (h : GL K cells e w base v L) (hi : L[i]? = some m) (hc : cells m' = cells m) : GL K cells e w base v (L.set i m') := by
  unfold GL at h ⊢
  rw [flat_set hi hc, List.length_set]
  exact h
theorem mem_set' {α : Type} {L : List α} {i : Nat} {m' x : α} (h : x ∈ L.set i m') : x ∈ L ∨ x = m' := List.mem_or_eq_of_mem_set h
theorem mem_set_ne {α : Type} {L : List α} {i : Nat} {m' x : α} (h : x ∈ L.set i m') : x = m' ∨ ∃ j, j ≠ i ∧ L[j]? = some x := by
  obtain ⟨j, hj⟩ := List.getElem?_of_mem h
  by_cases e : j = i
  · subst e
    have hl := (List.getElem?_eq_some_iff.1 hj).1
    rw [List.length_set] at hl
    rw [List.getElem?_set_self hl, Option.some.injEq] at hj
    exact .inl hj.symm
  · rw [List.getElem?_set_ne (fun x => e x.symm)] at hj
    exact .inr ⟨j, e, hj⟩
/-- a line written anew -/
theorem BK.putL {i : Nat} {m m' : BM} (h : BK N w B lv bv sv ms) (hi : ms[i]? = some m) (k : Ch (fun q => lv.ownBlock = some q ∨ m.v.ownBlock = some q) w w') (hl : GL 1 bmV 37 w' N lv (ms.set i m')) (hn : Ln N w' m'.v m'.M) (hb : m'.b = m.b) (hs : m'.s = m.s) (hq : ∀ q, m'.v.ownBlock = some q → m.v.ownBlock = some q ∨ w.heap.size ≤ q) : BK N w' B lv bv sv (ms.set i m') := by
  have hm := List.mem_of_getElem? hi
  have h1 : ∀ {q cc ty}, w.heap[q]? = some (.cells cc ty (0, 0)) → ty ≠ 37 → ty ≠ 56 → ¬ (lv.ownBlock = some q ∨ m.v.ownBlock = some q) := by
    rintro q cc ty hc n1 n2 (e | e)
    · obtain ⟨_, _, c, hk⟩ := h.l.kind q e
      exact tk_ne hc hk n1
    · obtain ⟨_, _, c, hk⟩ := (h.ln m hm).kind e
      exact tk_ne hc hk n2
  refine ⟨h.lo, h.at'.ch k (h1 h.at' (by decide) (by decide)), hl, ?_, ?_, h.ne, fun x hx => ?_, ?_⟩
  · exact (h.by'.ch k (fun q hq => by obtain ⟨_, _, c, hk⟩ := h.by'.kind q hq; exact h1 hk (by decide) (by decide))).same hi (by unfold bmB; rw [hb])
  · exact (h.s.ch k (fun q hq => by obtain ⟨_, _, c, hk⟩ := h.s.kind q hq; exact h1 hk (by decide) (by decide))).same hi (by unfold bmS; rw [hs])
  · rcases mem_set_ne hx with rfl | ⟨j, hj, hx'⟩
    · exact hn
    · refine (h.ln x (List.mem_of_getElem? hx')).ch k (fun q hq' e => ?_)
      rcases e with e | e
      · obtain ⟨_, _, c, hk⟩ := h.l.kind q e
        obtain ⟨_, _, c', hk'⟩ := (h.ln x (List.mem_of_getElem? hx')).kind hq'
        exact tk_ne hk hk' (by decide)
      · exact h.ap j i x m hx' hi hj q hq' e
  · intro a b x y hx hy hab q hqx hqy
    have hln : ∀ {j : Nat} {z : BM}, ms[j]? = some z → z.v.ownBlock = some q → q < w.heap.size := fun hz hzq => ((h.ln _ (List.mem_of_getElem? hz)).kind hzq).2.1
    by_cases ea : a = i
    · subst ea
      have eb : b ≠ a := fun e => hab e.symm
      rw [List.getElem?_set_self (List.getElem?_eq_some_iff.1 hi).1, Option.some.injEq] at hx
      rw [List.getElem?_set_ne (fun x => eb x.symm)] at hy
      subst hx
      rcases hq q hqx with e | e
      · exact h.ap a b m y hi hy hab q e hqy
      · have := hln hy hqy; omega
    · rw [List.getElem?_set_ne (fun x => ea x.symm)] at hx
      by_cases eb : b = i
      · subst eb
        rw [List.getElem?_set_self (List.getElem?_eq_some_iff.1 hi).1, Option.some.injEq] at hy
        subst hy
        rcases hq q hqy with e | e
        · exact h.ap a b x m hx hi hab q hqx e
        · have := hln hx hqx; omega
      · rw [List.getElem?_set_ne (fun x => eb x.symm)] at hy
        exact h.ap a b x y hx hy hab q hqx hqy
theorem BK.ap_set {i : Nat} {m m' : BM} (h : BK N w B lv bv sv ms) (hi : ms[i]? = some m) (hv : m'.v = m.v) : ∀ (a b : Nat) (x y : BM), (ms.set i m')[a]? = some x → (ms.set i m')[b]? = some y → a ≠ b → ∀ q, x.v.ownBlock = some q → y.v.ownBlock ≠ some q := by
  have key : ∀ {a : Nat} {x : BM}, (ms.set i m')[a]? = some x → ∃ x', ms[a]? = some x' ∧ x'.v = x.v := fun {a x} hx => by
    by_cases e : a = i
    · subst e
      rw [List.getElem?_set_self (List.getElem?_eq_some_iff.1 hi).1, Option.some.injEq] at hx
      subst hx
      exact ⟨m, hi, hv.symm⟩
    · rw [List.getElem?_set_ne (fun x => e x.symm)] at hx
      exact ⟨x, hx, rfl⟩
  intro a b x y hx hy hab q hqx hqy
  obtain ⟨x', hx', ex⟩ := key hx
  obtain ⟨y', hy', ey⟩ := key hy
  rw [← ex] at hqx
  rw [← ey] at hqy
  exact h.ap a b x' y' hx' hy' hab q hqx hqy
theorem BK.putB {i : Nat} {m m' : BM} (h : BK N w B lv bv sv ms) (hi : ms[i]? = some m) (k : Ch (fun q => bv.ownBlock = some q) w w') (hl : GL 1 bmB 3 w' N bv (ms.set i m')) (hv : m'.v = m.v) (hM : m'.M = m.M) (hs : m'.s = m.s) : BK N w' B lv bv sv (ms.set i m') := by
  have h1 : ∀ {q cc ty}, w.heap[q]? = some (.cells cc ty (0, 0)) → ty ≠ 3 → ¬ (bv.ownBlock = some q) := fun hc n1 e => by
    obtain ⟨_, _, c, hk⟩ := h.by'.kind _ e
    exact tk_ne hc hk n1
  have hk : ∀ x ∈ ms, Ln N w' x.v x.M := fun x hx => (h.ln x hx).ch k (fun q hq => by obtain ⟨_, _, c, hk⟩ := (h.ln x hx).kind hq; exact h1 hk (by decide))
  refine ⟨h.lo, h.at'.ch k (h1 h.at' (by decide)), (h.l.ch k (fun q hq => by obtain ⟨_, _, c, hk⟩ := h.l.kind q hq; exact h1 hk (by decide))).same hi (by unfold bmV; rw [hv]), hl, (h.s.ch k (fun q hq e => h.ne q e hq)).same hi (by unfold bmS; rw [hs]), h.ne, fun x hx => ?_, h.ap_set hi hv⟩
  rcases mem_set' hx with hx | rfl
  · exact hk x hx
  · rw [hv, hM]; exact hk m (List.mem_of_getElem? hi)
theorem BK.putS {i : Nat} {m m' : BM} (h : BK N w B lv bv sv ms) (hi : ms[i]? = some m) (k : Ch (fun q => sv.ownBlock = some q) w w') (hl : GL 1 bmS 3 w' N sv (ms.set i m')) (hv : m'.v = m.v) (hM : m'.M = m.M) (hb : m'.b = m.b) : BK N w' B lv bv sv (ms.set i m') := by
  have h1 : ∀ {q cc ty}, w.heap[q]? = some (.cells cc ty (0, 0)) → ty ≠ 3 → ¬ (sv.ownBlock = some q) := fun hc n1 e => by
    obtain ⟨_, _, c, hk⟩ := h.s.kind _ e
    exact tk_ne hc hk n1
  have hk : ∀ x ∈ ms, Ln N w' x.v x.M := fun x hx => (h.ln x hx).ch k (fun q hq => by obtain ⟨_, _, c, hk⟩ := (h.ln x hx).kind hq; exact h1 hk (by decide))
  refine ⟨h.lo, h.at'.ch k (h1 h.at' (by decide)), (h.l.ch k (fun q hq => by obtain ⟨_, _, c, hk⟩ := h.l.kind q hq; exact h1 hk (by decide))).same hi (by unfold bmV; rw [hv]), (h.by'.ch k (fun q hq e => h.ne q hq e)).same hi (by unfold bmB; rw [hb]), hl, h.ne, fun x hx => ?_, h.ap_set hi hv⟩
  rcases mem_set' hx with hx | rfl
  · exact hk x hx
  · rw [hv, hM]; exact hk m (List.mem_of_getElem? hi)
end
theorem run_bs1n (w : World) : (Instr.buildSlice 38 1 #[(0, .slice none 0 0)]).run Try.prog w = .ok (.slice (some ⟨w.heap.size, 0, none⟩) 1 1) (w.alloc (.cells #[.slice none 0 0] 37)) := by kernel_rfl
theorem wpList_bs1n {ops : Array Oper} {rest : List Oper} {o : Oper} {a : Act} {w : World} {Q : Exit → Act → World → Prop} (y : Operand) (ho : o.op = .buildSlice 38 1 #[(0, y)]) (hx : a.eval y = .slice none 0 0) (hw : Region.wanted o (yielded ops a.tmps) = true)
    (h : ∀ B W, Hid (w.heap.size = B ∧ W.heap.size = B + 1) → W.rangeAt B 0 (bmV m0) → Below w.heap.size w W → wpList Try.prog ops Q rest (a.put o.dst (.slice (some ⟨B, 0, none⟩) 1 1)) W) : wpList Try.prog ops Q (o :: rest) a w := by
  refine wpList_step fun K hK => ?_
  rw [if_pos hw]
  unfold Oper.wp execOp
  simp only [ho, Sem.run_bind, List.map_toArray, List.map_cons, List.map_nil, hx, run_bs1n w, Result.andThen_ok]
  refine hK _ _ (h _ _ ⟨rfl, World.size_alloc _ _⟩ (fun j u hj => ?_) ((Below.refl _ _).alloc (Nat.le_refl _) _))
  rw [World.cell?_alloc_at _ _ _ _ rfl, Nat.zero_add]
  simpa [bmV, m0, BM.v] using hj
theorem run_bs1b (w : World) : (Instr.buildSlice 23 1 #[(0, .int .i64 0)]).run Try.prog w = .ok (.slice (some ⟨w.heap.size, 0, none⟩) 1 1) (w.alloc (.cells #[.int .i64 0] 3)) := by kernel_rfl
theorem wpList_bs1b {ops : Array Oper} {rest : List Oper} {o : Oper} {a : Act} {w : World} {Q : Exit → Act → World → Prop} (y : Operand) (ho : o.op = .buildSlice 23 1 #[(0, y)]) (hx : a.eval y = .int .i64 0) (hw : Region.wanted o (yielded ops a.tmps) = true)
    (h : ∀ B W, Hid (w.heap.size = B ∧ W.heap.size = B + 1) → W.rangeAt B 0 (bmB m0) → Below w.heap.size w W → wpList Try.prog ops Q rest (a.put o.dst (.slice (some ⟨B, 0, none⟩) 1 1)) W) : wpList Try.prog ops Q (o :: rest) a w := by
  refine wpList_step fun K hK => ?_
  rw [if_pos hw]
  unfold Oper.wp execOp
  simp only [ho, Sem.run_bind, List.map_toArray, List.map_cons, List.map_nil, hx, run_bs1b w, Result.andThen_ok]
  refine hK _ _ (h _ _ ⟨rfl, World.size_alloc _ _⟩ (fun j u hj => ?_) ((Below.refl _ _).alloc (Nat.le_refl _) _))
  rw [World.cell?_alloc_at _ _ _ _ rfl, Nat.zero_add]
  simpa [bmB, m0, BM.v] using hj
theorem run_bs1t (w : World) : (Instr.buildSlice 23 1 #[(0, .int .i64 0)]).run Try.prog w = .ok (.slice (some ⟨w.heap.size, 0, none⟩) 1 1) (w.alloc (.cells #[.int .i64 0] 3)) := by kernel_rfl
theorem wpList_bs1s {ops : Array Oper} {rest : List Oper} {o : Oper} {a : Act} {w : World} {Q : Exit → Act → World → Prop} (y : Operand) (ho : o.op = .buildSlice 23 1 #[(0, y)]) (hx : a.eval y = .int .i64 0) (hw : Region.wanted o (yielded ops a.tmps) = true)
    (h : ∀ B W, Hid (w.heap.size = B ∧ W.heap.size = B + 1) → W.rangeAt B 0 (bmS m0) → Below w.heap.size w W → wpList Try.prog ops Q rest (a.put o.dst (.slice (some ⟨B, 0, none⟩) 1 1)) W) : wpList Try.prog ops Q (o :: rest) a w := by
  refine wpList_step fun K hK => ?_
  rw [if_pos hw]
  unfold Oper.wp execOp
  simp only [ho, Sem.run_bind, List.map_toArray, List.map_cons, List.map_nil, hx, run_bs1t w, Result.andThen_ok]
  refine hK _ _ (h _ _ ⟨rfl, World.size_alloc _ _⟩ (fun j u hj => ?_) ((Below.refl _ _).alloc (Nat.le_refl _) _))
  rw [World.cell?_alloc_at _ _ _ _ rfl, Nat.zero_add]
  simpa [bmS, m0, BM.v] using hj
theorem rep_snoc {α : Type} (k : Nat) (x : α) : List.replicate k x ++ [x] = List.replicate (k + 1) x := by rw [List.replicate_succ']
theorem GL.val {α : Type} {K : Nat} {cells : α → List Value} {e : TypeId} {w : World} {base : Nat} {v : Value} {L : List α} (h : GL K cells e w base v L) {n : Nat} (hn : L.length = n) : ∃ a c, v = .slice a n c := by
  obtain ⟨a, c, hv⟩ := h.form
  exact ⟨a, c, by rw [hv, hn]⟩
/-- the empty book under way: three lists, of k1, k2, k3 rows -/
structure BW (w wr : World) (B : Nat) (lv bv sv : Value) (k1 k2 k3 : Nat) : Prop where
  bel : Below w.heap.size w wr
  lo : w.heap.size ≤ B
  at' : BovAt wr B lv bv sv
  l : GL 1 bmV 37 wr w.heap.size lv (List.replicate k1 m0)
  by' : GL 1 bmB 3 wr w.heap.size bv (List.replicate k2 m0)
  s : GL 1 bmS 3 wr w.heap.size sv (List.replicate k3 m0)
  ne : ∀ q, bv.ownBlock = some q → sv.ownBlock ≠ some q
theorem BW.below {w wr w' : World} {B : Nat} {lv bv sv : Value} {k1 k2 k3 : Nat} (h : BW w wr B lv bv sv k1 k2 k3) (k : Below wr.heap.size wr w') : BW w w' B lv bv sv k1 k2 k3 :=
  ⟨h.bel.trans (k.mono h.bel.size), h.lo, h.at'.below k, h.l.below k, h.by'.below k, h.s.below k, h.ne⟩
section
variable {w wr w1 : World} {B : Nat} {lv bv sv v : Value} {k1 k2 k3 : Nat}
theorem BW.setL (h : BW w wr B lv bv sv k1 k2 k3) (g : GL 1 bmV 37 w1 w.heap.size v (List.replicate k1 m0 ++ [m0])) (k : wr.grownBy w1 lv.ownBlock) : BW w (w1.setCell ⟨B, 0, none⟩ v) B v bv sv (k1 + 1) k2 k3 ∧ BovAt w1 B lv bv sv := by
  have kc := Ch.ofGrown k
  have hB : BovAt w1 B lv bv sv := h.at'.ch kc (fun e => by obtain ⟨_, _, c, hc⟩ := h.l.kind B e; exact tk_ne h.at' hc (by decide))
  have kk : Ch (fun q => q = B) w1 (w1.setCell ⟨B, 0, none⟩ v) := (Ch.refl (fun q => q = B) w1).set ⟨B, 0, none⟩ _ rfl
  have kB : ∀ {q c ty}, w1.heap[q]? = some (.cells c ty (0, 0)) → ty ≠ 40 → ¬ q = B := fun hc hn e => by subst e; exact tk_ne hc hB hn
  have b1 : Below w.heap.size wr w1 := kc.below (fun q e => (h.l.kind q e).1) h.bel.size
  have hlo := h.lo
  have hb2 : GL 1 bmB 3 w1 w.heap.size bv (List.replicate k2 m0) := h.by'.ch kc (fun q hq e => by obtain ⟨_, _, c, hc⟩ := h.by'.kind q hq; obtain ⟨_, _, c', hc'⟩ := h.l.kind q e; exact tk_ne hc hc' (by decide))
  have hs2 : GL 1 bmS 3 w1 w.heap.size sv (List.replicate k3 m0) := h.s.ch kc (fun q hq e => by obtain ⟨_, _, c, hc⟩ := h.s.kind q hq; obtain ⟨_, _, c', hc'⟩ := h.l.kind q e; exact tk_ne hc hc' (by decide))
  rw [rep_snoc] at g
  exact ⟨⟨(h.bel.trans b1).trans (kk.below (fun q e => by have e' : q = B := e; omega) (h.bel.trans b1).size), h.lo, hB.set 0 v v bv sv rfl, g.ch kk (fun q hq => kB (g.kind q hq).2.2.choose_spec (by decide)), hb2.ch kk (fun q hq => kB (hb2.kind q hq).2.2.choose_spec (by decide)), hs2.ch kk (fun q hq => kB (hs2.kind q hq).2.2.choose_spec (by decide)), h.ne⟩, hB⟩
theorem BW.setB (h : BW w wr B lv bv sv k1 k2 k3) (g : GL 1 bmB 3 w1 w.heap.size v (List.replicate k2 m0 ++ [m0])) (k : wr.grownBy w1 bv.ownBlock) (ho : v.ownBlock = bv.ownBlock ∨ v.ownBlock = some wr.heap.size) : BW w (w1.setCell ⟨B, 1, none⟩ v) B lv v sv k1 (k2 + 1) k3 ∧ BovAt w1 B lv bv sv := by
  have kc := Ch.ofGrown k
  have hB : BovAt w1 B lv bv sv := h.at'.ch kc (fun e => by obtain ⟨_, _, c, hc⟩ := h.by'.kind B e; exact tk_ne h.at' hc (by decide))
  have kk : Ch (fun q => q = B) w1 (w1.setCell ⟨B, 1, none⟩ v) := (Ch.refl (fun q => q = B) w1).set ⟨B, 1, none⟩ _ rfl
  have kB : ∀ {q c ty}, w1.heap[q]? = some (.cells c ty (0, 0)) → ty ≠ 40 → ¬ q = B := fun hc hn e => by subst e; exact tk_ne hc hB hn
  have b1 : Below w.heap.size wr w1 := kc.below (fun q e => (h.by'.kind q e).1) h.bel.size
  have hlo := h.lo
  have hl2 : GL 1 bmV 37 w1 w.heap.size lv (List.replicate k1 m0) := h.l.ch kc (fun q hq e => by obtain ⟨_, _, c, hc⟩ := h.l.kind q hq; obtain ⟨_, _, c', hc'⟩ := h.by'.kind q e; exact tk_ne hc hc' (by decide))
  have hs2 : GL 1 bmS 3 w1 w.heap.size sv (List.replicate k3 m0) := h.s.ch kc (fun q hq e => h.ne q e hq)
  rw [rep_snoc] at g
  exact ⟨⟨(h.bel.trans b1).trans (kk.below (fun q e => by have e' : q = B := e; omega) (h.bel.trans b1).size), h.lo, hB.set 1 v lv v sv rfl, hl2.ch kk (fun q hq => kB (hl2.kind q hq).2.2.choose_spec (by decide)), g.ch kk (fun q hq => kB (g.kind q hq).2.2.choose_spec (by decide)), hs2.ch kk (fun q hq => kB (hs2.kind q hq).2.2.choose_spec (by decide)), fun q hq e => by
    rcases ho with ho | ho
    · rw [ho] at hq; exact h.ne q hq e
    · rw [ho, Option.some.injEq] at hq
      have := (h.s.kind q e).2.1
      omega⟩, hB⟩
theorem BW.setS (h : BW w wr B lv bv sv k1 k2 k3) (g : GL 1 bmS 3 w1 w.heap.size v (List.replicate k3 m0 ++ [m0])) (k : wr.grownBy w1 sv.ownBlock) (ho : v.ownBlock = sv.ownBlock ∨ v.ownBlock = some wr.heap.size) : BW w (w1.setCell ⟨B, 2, none⟩ v) B lv bv v k1 k2 (k3 + 1) ∧ BovAt w1 B lv bv sv := by
  have kc := Ch.ofGrown k
  have hB : BovAt w1 B lv bv sv := h.at'.ch kc (fun e => by obtain ⟨_, _, c, hc⟩ := h.s.kind B e; exact tk_ne h.at' hc (by decide))
  have kk : Ch (fun q => q = B) w1 (w1.setCell ⟨B, 2, none⟩ v) := (Ch.refl (fun q => q = B) w1).set ⟨B, 2, none⟩ _ rfl
  have kB : ∀ {q c ty}, w1.heap[q]? = some (.cells c ty (0, 0)) → ty ≠ 40 → ¬ q = B := fun hc hn e => by subst e; exact tk_ne hc hB hn
  have b1 : Below w.heap.size wr w1 := kc.below (fun q e => (h.s.kind q e).1) h.bel.size
  have hlo := h.lo
  have hl2 : GL 1 bmV 37 w1 w.heap.size lv (List.replicate k1 m0) := h.l.ch kc (fun q hq e => by obtain ⟨_, _, c, hc⟩ := h.l.kind q hq; obtain ⟨_, _, c', hc'⟩ := h.s.kind q e; exact tk_ne hc hc' (by decide))
  have hb2 : GL 1 bmB 3 w1 w.heap.size bv (List.replicate k2 m0) := h.by'.ch kc (fun q hq e => h.ne q hq e)
  rw [rep_snoc] at g
  exact ⟨⟨(h.bel.trans b1).trans (kk.below (fun q e => by have e' : q = B := e; omega) (h.bel.trans b1).size), h.lo, hB.set 2 v lv bv v rfl, hl2.ch kk (fun q hq => kB (hl2.kind q hq).2.2.choose_spec (by decide)), hb2.ch kk (fun q hq => kB (hb2.kind q hq).2.2.choose_spec (by decide)), g.ch kk (fun q hq => kB (g.kind q hq).2.2.choose_spec (by decide)), fun q hq e => by
    rcases ho with ho | ho
    · rw [ho] at e; exact h.ne q hq e
    · rw [ho, Option.some.injEq] at e
      have := (h.by'.kind q hq).2.1
      omega⟩, hB⟩
theorem BW.done {k : Nat} (h : BW w wr B lv bv sv k k k) : BK w.heap.size wr B lv bv sv (List.replicate k m0) := by
  refine ⟨h.lo, h.at', h.l, h.by', h.s, h.ne, fun m hm => ?_, fun i j x y hx _ _ q hq => ?_⟩
  · rw [List.eq_of_mem_replicate hm]; exact .inl ⟨rfl, rfl⟩
  · rw [List.eq_of_mem_replicate (List.mem_of_getElem? hx)] at hq; cases hq
end
set_option maxHeartbeats 3200000 in
set_option maxRecDepth 100000 in
theorem book_any (n : Nat) (hn : n ≤ 8) (w : World) : Calls Try.prog 14 #[.int .i64 (n : Nat)] w fun e w' => ∃ B lv bv sv, e = .returned (.pointer (some ⟨B, 0, none⟩)) ∧ BK w.heap.size w' B lv bv sv (List.replicate n m0) ∧ Below w.heap.size w w' := by
  have H0 : Hid (BW w (w.alloc (.cells (boA (.slice none 0 0) (.slice none 0 0) (.slice none 0 0)) 40)) w.heap.size (.slice none 0 0) (.slice none 0 0) (.slice none 0 0) 0 0 0) := ⟨(Below.refl _ _).alloc (Nat.le_refl _) _, Nat.le_refl _, heap_alloc_new _ _, GL.nil, GL.nil, GL.nil, fun q hq => by cases hq⟩
  obtain ⟨W, hW⟩ : ∃ W_, W_ = w.alloc (.cells (boA (.slice none 0 0) (.slice none 0 0) (.slice none 0 0)) 40) := ⟨_, rfl⟩
  obtain ⟨B, hB⟩ : ∃ B_, B_ = w.heap.size := ⟨_, rfl⟩
  have HW : Hid (w.alloc (.cells #[.slice none 0 0, .slice none 0 0, .slice none 0 0] 40) = W ∧ w.heap.size = B) := ⟨hW.symm, hB.symm⟩
  have H1 : Hid (BW w W B (.slice none 0 0) (.slice none 0 0) (.slice none 0 0) 0 0 0) := by have := H0.out; rw [← hW] at this; rw [hB]; exact this
  clear hW hB H0
  go_enter Try.func14, Try.ntmps14
  go_wp2_with fail
  rw [HW.out.1, HW.out.2]
  go_loopw [4] (fun ix wr => ∃ (k : Nat) (lv bv sv : Value), ix = .int .i64 (k : Nat) ∧ k ≤ n ∧ Hid (BW w wr B lv bv sv k k k)) (fun ix _ => n - (intOf ix).toNat)
  case atStart => exact ⟨0, _, _, _, rfl, Nat.zero_le _, H1.out⟩
  case round =>
    obtain ⟨k, lv, bv, sv, rfl, hk, HI⟩ := hrel
    clear H1
    by_cases hkn : k < n
    · have p1 : decide ((k : Int) < (n : Int)) = true := decide_eq_true (by omega)
      have p2 : decide (k < n) = true := decide_eq_true hkn
      have wk : IntKind.i64.wrap ((k : Int) + 1) = (k : Int) + 1 := i64_s _ (by omega) (by omega)
      have HK8 : Hid (k < n ∧ k ≤ 8) := ⟨hkn, by omega⟩
      obtain ⟨la, lc, hlv⟩ := HI.out.l.val (n := k) List.length_replicate
      obtain ⟨ba, bc, hbv⟩ := HI.out.by'.val (n := k) List.length_replicate
      obtain ⟨sa, sc, hsv⟩ := HI.out.s.val (n := k) List.length_replicate
      subst hlv hbv hsv
      have c0 : wr.cell? ⟨B, 0, none⟩ = some (.slice la k lc) := HI.out.at'.cell 0
      clear hkn hk
      go_wp2_with (first | (refine wpList_bs1n (.const (.slice none 0 0)) rfl rfl rfl ?_; intro Bi Wi hBi hRi bi) | (refine wpList_app1G bmV_len bmV_one (by decide) rfl (.tmp 16) (.tmp 17) 38 37 rfl Try.underlying38 info_ls w.heap.size (.slice la k lc) (List.replicate k m0) rfl (HI.out.l.below bi) Bi 1 m0 rfl (by have := hBi.out; omega) hRi (by rw [List.length_replicate]; have := HK8.out; omega) (Nat.le_trans HI.out.bel.size bi.size) ?_))
      intro v1 w1 g1 k1 o1
      have h1 := (HI.out.below bi).setL g1 k1
      obtain ⟨la1, lc1, hv1⟩ := g1.val (n := k + 1) (by simp)
      subst hv1
      have c1 : w1.cell? ⟨B, 0, none⟩ = some (.slice la k lc) := h1.2.cell 0
      have z1 := h1.2.fz 0
      have HJ : Hid (BW w (w1.setCell ⟨B, 0, none⟩ (.slice la1 (k + 1) lc1)) B (.slice la1 (k + 1) lc1) (.slice ba k bc) (.slice sa k sc) (k + 1) k k) := h1.1
      clear h1 g1 k1 o1 hBi hRi bi c0
      go_upto_region 6 with fail
      obtain ⟨x1, hx1⟩ : ∃ x, w1.setCell ⟨B, 0, none⟩ (.slice la1 (k + 1) lc1) = x := ⟨_, rfl⟩
      rw [hx1] at HJ ⊢
      clear hx1 c1 z1
      have c0 : x1.cell? ⟨B, 1, none⟩ = some (.slice ba k bc) := HJ.out.at'.cell 1
      go_wp2_with (first | (refine wpList_bs1b (.const (.int .i64 0)) rfl rfl rfl ?_; intro Bi Wi hBi hRi bi) | (refine wpList_app1G bmB_len bmB_one (by decide) rfl (.tmp 25) (.tmp 26) 23 3 rfl Try.underlying23 info_in w.heap.size (.slice ba k bc) (List.replicate k m0) rfl (HJ.out.by'.below bi) Bi 1 m0 rfl (by have := hBi.out; omega) hRi (by rw [List.length_replicate]; have := HK8.out; omega) (Nat.le_trans HJ.out.bel.size bi.size) ?_))
      intro v2 w2 g2 k2 o2
      have h2 := (HJ.out.below bi).setB g2 k2 o2
      obtain ⟨ba1, bc1, hv2⟩ := g2.val (n := k + 1) (by simp)
      subst hv2
      have c1 : w2.cell? ⟨B, 1, none⟩ = some (.slice ba k bc) := h2.2.cell 1
      have z1 := h2.2.fz 1
      have HL : Hid (BW w (w2.setCell ⟨B, 1, none⟩ (.slice ba1 (k + 1) bc1)) B (.slice la1 (k + 1) lc1) (.slice ba1 (k + 1) bc1) (.slice sa k sc) (k + 1) (k + 1) k) := h2.1
      clear h2 g2 k2 o2 hBi hRi bi c0 HJ
      go_upto_region 7 with fail
      obtain ⟨x2, hx2⟩ : ∃ x, w2.setCell ⟨B, 1, none⟩ (.slice ba1 (k + 1) bc1) = x := ⟨_, rfl⟩
      rw [hx2] at HL ⊢
      clear hx2 c1 z1
      have c0 : x2.cell? ⟨B, 2, none⟩ = some (.slice sa k sc) := HL.out.at'.cell 2
      go_wp2_with (first | (refine wpList_bs1s (.const (.int .i64 0)) rfl rfl rfl ?_; intro Bi Wi hBi hRi bi) | (refine wpList_app1G bmS_len bmS_one (by decide) rfl (.tmp 34) (.tmp 35) 23 3 rfl Try.underlying23 info_in w.heap.size (.slice sa k sc) (List.replicate k m0) rfl (HL.out.s.below bi) Bi 1 m0 rfl (by have := hBi.out; omega) hRi (by rw [List.length_replicate]; have := HK8.out; omega) (Nat.le_trans HL.out.bel.size bi.size) ?_))
      intro v3 w3 g3 k3 o3
      have h3 := (HL.out.below bi).setS g3 k3 o3
      obtain ⟨sa1, sc1, hv3⟩ := g3.val (n := k + 1) (by simp)
      subst hv3
      have c1 : w3.cell? ⟨B, 2, none⟩ = some (.slice sa k sc) := h3.2.cell 2
      have z1 := h3.2.fz 2
      have HM : Hid (BW w (w3.setCell ⟨B, 2, none⟩ (.slice sa1 (k + 1) sc1)) B (.slice la1 (k + 1) lc1) (.slice ba1 (k + 1) bc1) (.slice sa1 (k + 1) sc1) (k + 1) (k + 1) (k + 1)) := h3.1
      clear h3 g3 k3 o3 hBi hRi bi c0 HL
      go_wp2_with fail
      go_roundw
      case rel => exact ⟨k + 1, _, _, _, by first | rfl | go_num, by have := HK8.out.1; omega, HM.out⟩
      case measure => have := HK8.out.1; simp [intOf]; omega
    · have p1 : decide ((k : Int) < (n : Int)) = false := decide_eq_false (by omega)
      have p2 : decide (k < n) = false := decide_eq_false hkn
      have HKN : Hid (k = n) := by show k = n; omega
      clear hkn hk
      go_wp2_with fail
      go_ret
      refine ⟨B, lv, bv, sv, rfl, ?_, HI.out.bel⟩
      rw [← HKN.out]
      exact HI.out.done
end Go.Proofs.Ytclkcpdghpaboaa
