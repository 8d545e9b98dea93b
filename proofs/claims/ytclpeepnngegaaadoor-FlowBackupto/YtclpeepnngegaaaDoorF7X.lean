/-
  What the bound on the bulk of what comes in gives: bounds on the lengths of slices of integers.
-/
/-
  A list of structs that came in: what its reading tells of memory, for any shape of the elements.
-/
/-
  Layer 17: steps, configurations and tuples that came in.
-/
/-
  Layer 17: begun.
-/
/-
  addr.Class and weirref4.Class answer alike; what the document's New takes, the program's New takes.
-/
/-
  Layer 17: table: a table in every case.
-/
/-
  Layer 17: runs: a step at one table.
-/
/-
  Layer 17: flows held against one another; sameFlows; what is left behind n ticks.
-/
/-
  Layer 17: goesOut; the ports in numbers.
-/
/-
  Layer 17: what the walks share.
-/
/-
  Layer 17: lists of tuples; FlowBack in numbers.
-/
import Derived.Test.YtclpeepnngegaaaDoorRows
import Derived.ChangeSlices
import Derived.Test.YtclpeepnngegaaaDoorBase
import Derived.Deep.Slices
import Derived.ProofKit
import Derived.OpenShut
import Derived.Test.YtclpeepnngegaaaDoorFlOp
import Derived.Test.YtclpeepnngegaaaDoorFlH0
import Derived.Test.YtclpeepnngegaaaDoorR17a
import Derived.Maps.AppendAt
namespace Go.Proofs.YtclpeepnngegaaaDoor
theorem bulk_pos {H : Type} (d : DataW H) : 1 ≤ Rows.uptoBulk d := by
  cases d with
  | lit l => cases l <;> simp [Rows.uptoBulk]
  | nil => simp [Rows.uptoBulk]
  | ptr d => simp [Rows.uptoBulk]
  | slice elems spare => simp [Rows.uptoBulk]
  | agg parts => simp [Rows.uptoBulk]
  | iface t d => simp [Rows.uptoBulk]
  | map entries => simp [Rows.uptoBulk]
  | held h => simp [Rows.uptoBulk]
theorem bulk_len {H : Type} (l : List (DataW H)) : l.length ≤ Rows.uptoBulkAll l := by
  induction l with
  | nil => simp [Rows.uptoBulkAll]
  | cons x r ih => have := bulk_pos x; simp only [Rows.uptoBulkAll, List.length_cons]; omega
theorem bulk_row {H : Type} {d : DataW H} {p q : List MemPlace} {k : IntKind} {zs : List Int} {len cap : Nat} (hl : len ≤ cap) (hz : zs.length = cap) (hx : (d, p) = (.slice (ChangeShapes.lits k (zs.take len)) (ChangeShapes.lits k (zs.drop len)), q)) : cap ≤ Rows.uptoBulk d := by
  have e := (Prod.mk.inj hx).1
  subst e
  have h1 := bulk_len (H := H) (ChangeShapes.lits k (zs.take len))
  have h2 := bulk_len (H := H) (ChangeShapes.lits k (zs.drop len))
  have e1 : (ChangeShapes.lits (H := H) k (zs.take len)).length = len := by unfold ChangeShapes.lits; simp; omega
  have e2 : (ChangeShapes.lits (H := H) k (zs.drop len)).length = cap - len := by unfold ChangeShapes.lits; simp; omega
  rw [e1] at h1
  rw [e2] at h2
  simp only [Rows.uptoBulk]
  omega
theorem bulk_of {H : Type} {l : List (DataW H)} (hk : Rows.uptoSmall H l = true) : Rows.uptoBulkAll l ≤ 1048576 := of_decide_eq_true hk
end Go.Proofs.YtclpeepnngegaaaDoor
namespace Go.Proofs.YtclpeepnngegaaaDoor
open Go.RowKit Go.ChangeShapes Go.WideShapes

/-- the elements lie one behind the other, K cells each -/
def ListG {α : Type} (K : Nat) (cells : α → List Value) (ok : α → Prop) (w : World) (a : Option Addr) (ops : List α) : Prop :=
  ops = [] ∨ ∃ b off, a = some ⟨b, off, none⟩ ∧ b < w.heap.size ∧ ∀ (i : Nat) (o : α), ops[i]? = some o → ok o ∧ ∀ j, j < K → w.cell? ⟨b, off + i * K + j, none⟩ = (cells o)[j]?
theorem ListG.old {α : Type} {K : Nat} {cells : α → List Value} {ok : α → Prop} {w w' : World} {a : Option Addr} {ops : List α} (h : ListG K cells ok w a ops) (hb : Below w.heap.size w w') : ListG K cells ok w' a ops := by
  rcases h with h | ⟨b, off, ha, hlt, hc⟩
  · exact .inl h
  · refine .inr ⟨b, off, ha, by have := hb.size; omega, fun i o ho => ⟨(hc i o ho).1, fun j hj => ?_⟩⟩
    rw [hb.cell (p := ⟨b, off + i * K + j, none⟩) hlt]
    exact (hc i o ho).2 j hj
theorem ListG.at {α : Type} {K : Nat} {cells : α → List Value} {ok : α → Prop} {w : World} {a : Option Addr} {ops : List α} (h : ListG K cells ok w a ops) (i : Nat) (o : α) (ho : ops[i]? = some o) :
    ok o ∧ ∃ b off, a = some ⟨b, off, none⟩ ∧ b < w.heap.size ∧ ∀ j, j < K → w.cell? ⟨b, off + i * K + j, none⟩ = (cells o)[j]? := by
  rcases h with h | ⟨b, off, ha, hlt, hc⟩
  · rw [h] at ho; simp at ho
  · exact ⟨(hc i o ho).1, b, off, ha, hlt, (hc i o ho).2⟩
theorem bulk_memG {H : Type} {d : DataW H} {l : List (DataW H)} (h : d ∈ l) : Rows.uptoBulk d ≤ Rows.uptoBulkAll l := by
  induction l with
  | nil => cases h
  | cons x r ih =>
    simp only [Rows.uptoBulkAll]
    cases List.mem_cons.1 h with
    | inl e => subst e; omega
    | inr e => have := ih e; omega
theorem open_list {α : Type} (K : Nat) (cells : α → List Value) (ok : α → Prop) {H : Type} {enc : TypeId × Value → H} {W : World} {t e : TypeId} {a : Option Addr} {len cap : Nat} {d : DataW H} {p : List MemPlace} {fuel : Nat}
    (ht : Tryd.prog.underlying t = some (.slice e)) (hc : Tryd.prog.cellsOf e = K) (hK : 0 < K) (hcl : ∀ o, (cells o).length = K)
    (hel : ∀ (fuel : Nat) (cs : List Value) (x : DataW H × List MemPlace), DataW.trod enc Tryd.prog W 0 (fun _ => true) true fuel e cs = some x → Rows.uptoBulk x.1 ≤ 1048576 → ∃ o : α, cs = cells o ∧ ok o)
    (h : DataW.trod enc Tryd.prog W 0 (fun _ => true) true fuel t [.slice a len cap] = some (d, p)) (hbulk : Rows.uptoBulk d ≤ 1048576) :
    ∃ ops : List α, ops.length = len ∧ ListG K cells ok W a ops ∧ len ≤ 1048576 := by
  rcases Deep.open_slice ht h with ⟨hcs, hx⟩ | ⟨ad, l, c, m, n, D, Pl, hcs, _, hl, hm, hmm, hx, hev⟩
  · simp only [List.cons.injEq, Value.slice.injEq, and_true] at hcs
    obtain ⟨rfl, rfl, rfl⟩ := hcs
    exact ⟨[], rfl, .inl rfl, by omega⟩
  · simp only [List.cons.injEq, Value.slice.injEq, and_true] at hcs
    obtain ⟨rfl, rfl, rfl⟩ := hcs
    simp only [if_true] at hmm
    subst hmm
    have e' := (Prod.mk.inj hx).1
    subst e'
    simp only [Rows.uptoBulk] at hbulk
    have hlen : len ≤ 1048576 := by
      have := bulk_len ((List.range len).map D)
      simp only [List.length_map, List.length_range] at this
      omega
    have hD : ∀ i, i < len → Rows.uptoBulk (D i) ≤ 1048576 := fun i hi => by
      have := bulk_memG (d := D i) (l := (List.range len).map D) (List.mem_map.2 ⟨i, List.mem_range.2 hi, rfl⟩)
      omega
    have hall : ∀ i, i < len → ∃ o : α, ok o ∧ ∀ j, j < K → W.cell? (ad.add (i * K + j)) = (cells o)[j]? := by
      intro i hi
      obtain ⟨cs', h1, h2⟩ := hev i (by omega)
      rw [hc] at h1
      obtain ⟨_, _, hcc⟩ := World.cells?_some h1
      obtain ⟨o, rfl, hok⟩ := hel _ _ _ h2 (hD i hi)
      refine ⟨o, hok, fun j hj => ?_⟩
      have := hcc j hj
      rwa [Deep.add_add] at this
    have hbuild : ∀ k, k ≤ len → ∃ ops : List α, ops.length = k ∧ ∀ i o, ops[i]? = some o → ok o ∧ ∀ j, j < K → W.cell? (ad.add (i * K + j)) = (cells o)[j]? := by
      intro k
      induction k with
      | zero => intro _; exact ⟨[], rfl, by intro i o ho; simp at ho⟩
      | succ k ih =>
        intro hk
        obtain ⟨ops, hl', hops⟩ := ih (by omega)
        obtain ⟨o, ho⟩ := hall k (by omega)
        refine ⟨ops ++ [o], by simp [hl'], ?_⟩
        intro i o' hi'
        by_cases hik : i < k
        · rw [List.getElem?_append_left (by omega)] at hi'
          exact hops i o' hi'
        · rw [List.getElem?_append_right (by omega)] at hi'
          have hi0 : i = k := by
            have := (List.getElem?_eq_some_iff.1 hi').1
            simp at this
            omega
          subst hi0
          rw [hl', Nat.sub_self] at hi'
          simp at hi'
          subst hi'
          exact ho
    obtain ⟨ops, hol, hops⟩ := hbuild len (Nat.le_refl _)
    refine ⟨ops, hol, ?_, hlen⟩
    by_cases h0 : ops = []
    · exact .inl h0
    · have hpos : 0 < ops.length := by
        cases ops with
        | nil => exact absurd rfl h0
        | cons _ _ => simp
      obtain ⟨o, ho⟩ : ∃ o, ops[0]? = some o := ⟨ops[0], by simp [hpos]⟩
      have hc0 := (hops 0 o ho).2 0 hK
      simp only [Nat.zero_mul, Nat.zero_add] at hc0
      obtain ⟨v0, hv0⟩ : ∃ v0, (cells o)[0]? = some v0 := ⟨(cells o)[0]'(by rw [hcl]; exact hK), by simp [hcl, hK]⟩
      rw [hv0] at hc0
      obtain ⟨b, off, spot⟩ := ad
      have hspot : spot = none := by simpa [Addr.add] using World.cell?_spot hc0
      subst hspot
      refine .inr ⟨b, off, rfl, World.block_lt_of_cell? W _ hc0, fun i o' hi' => ⟨(hops i o' hi').1, fun j hj => ?_⟩⟩
      have := (hops i o' hi').2 j hj
      rw [Addr.add_lit] at this
      rw [Nat.add_assoc]
      exact this
/-- a slice of integers in a field -/
theorem open_rowG {H : Type} {enc : TypeId × Value → H} {W : World} {fuel : Nat} {t e : TypeId} {k : IntKind} {c : Value} {y : DataW H × List MemPlace} (ht : Tryd.prog.underlying t = some (.slice e)) (he : Tryd.prog.underlying e = some (.int k)) (hc : Tryd.prog.cellsOf e = 1)
    (h : DataW.trod enc Tryd.prog W 0 (fun _ => true) true fuel t [c] = some y) : ∃ a len cap zs, c = .slice a len cap ∧ IsRow k W a len cap zs ∧ cap ≤ Rows.uptoBulk y.1 := by
  rcases open_ints ht he hc h with ⟨hcs, hx⟩ | ⟨x, l, cp, zs, hcs, _, hl, hm, hz, hx, hcell, hwz⟩
  · simp only [List.cons.injEq, and_true] at hcs
    subst hcs
    exact ⟨none, 0, 0, [], rfl, .inl ⟨rfl, rfl, rfl, rfl⟩, Nat.zero_le _⟩
  · simp only [List.cons.injEq, and_true] at hcs
    subst hcs
    exact ⟨_, l, cp, zs, rfl, .inr ⟨_, rfl, hl, hm, by simpa using hz, hcell, hwz⟩, bulk_row (p := y.2) hl (by simpa using hz) hx⟩
theorem open_i64G {H : Type} {enc : TypeId × Value → H} {W : World} {fuel : Nat} {c : Value} {y : DataW H × List MemPlace}
    (h : DataW.trod enc Tryd.prog W 0 (fun _ => true) true fuel 3 [c] = some y) : ∃ a : Int, c = .int .i64 a ∧ -9223372036854775808 ≤ a ∧ a ≤ 9223372036854775807 := by
  obtain ⟨a, e0, _, wa⟩ := DataW.trod_int Tryd.underlying3 h
  simp only [List.cons.injEq, and_true] at e0
  subst e0
  refine ⟨a, rfl, ?_⟩
  simp [Lit.wf, IntKind.min, IntKind.max, IntKind.bits, IntKind.signed] at wa
  omega
end Go.Proofs.YtclpeepnngegaaaDoor
namespace Go.Proofs.YtclpeepnngegaaaDoor
open Go.RowKit Go.Maps Go.ChangeShapes Go.WideShapes

structure SV where
  kd : Int
  ob : Int
  x : TU
  fl : Int
  n : Int
def stC (s : SV) : Array Value := #[.int .i64 s.kd, .int .i64 s.ob, .int .i64 s.x.pr, .int .i64 s.x.sV, .int .u8 (s.x.s 0 : Nat), .int .u8 (s.x.s 1 : Nat), .int .u8 (s.x.s 2 : Nat), .int .u8 (s.x.s 3 : Nat), .int .u8 (s.x.s 4 : Nat), .int .u8 (s.x.s 5 : Nat), .int .u8 (s.x.s 6 : Nat), .int .u8 (s.x.s 7 : Nat), .int .u8 (s.x.s 8 : Nat), .int .u8 (s.x.s 9 : Nat), .int .u8 (s.x.s 10 : Nat), .int .u8 (s.x.s 11 : Nat), .int .u8 (s.x.s 12 : Nat), .int .u8 (s.x.s 13 : Nat), .int .u8 (s.x.s 14 : Nat), .int .u8 (s.x.s 15 : Nat), .int .i64 s.x.dV, .int .u8 (s.x.d 0 : Nat), .int .u8 (s.x.d 1 : Nat), .int .u8 (s.x.d 2 : Nat), .int .u8 (s.x.d 3 : Nat), .int .u8 (s.x.d 4 : Nat), .int .u8 (s.x.d 5 : Nat), .int .u8 (s.x.d 6 : Nat), .int .u8 (s.x.d 7 : Nat), .int .u8 (s.x.d 8 : Nat), .int .u8 (s.x.d 9 : Nat), .int .u8 (s.x.d 10 : Nat), .int .u8 (s.x.d 11 : Nat), .int .u8 (s.x.d 12 : Nat), .int .u8 (s.x.d 13 : Nat), .int .u8 (s.x.d 14 : Nat), .int .u8 (s.x.d 15 : Nat), .int .i64 s.x.sp, .int .i64 s.x.dp, .int .i64 s.fl, .int .i64 s.n]
def sz : SV := ⟨0, 0, xz, 0, 0⟩
theorem Tryd.size_stp : (Tryd.prog.info? 36).map (·.size) = some 41 := by kernel_rfl
def StpAt (w : World) (O : Nat) (s : SV) : Prop := w.heap[O]? = some (.cells (stC s) 36 (0, 0))
section
variable {w : World} {O : Nat} {s : SV} (k : StpAt w O s)
include k
theorem StpAt.lt : O < w.heap.size := (Array.getElem?_eq_some_iff.1 k).1
theorem StpAt.ch {S : Nat → Prop} {w' : World} (c : Ch S w w') (hS : ¬ S O) : StpAt w' O s := (c.block O k.lt hS).trans k
theorem StpAt.below {w' : World} (c : Below w.heap.size w w') : StpAt w' O s := (c.block O k.lt).trans k
theorem StpAt.cell (i : Nat) : w.cell? ⟨O, i, none⟩ = (stC s)[i]? := by unfold StpAt at k; simp [World.cell?, k]
theorem StpAt.fz (j : Nat) : w.frozen? ⟨O, j, none⟩ = false := by unfold StpAt at k; simp [World.frozen?, k]
theorem StpAt.range (o n : Nat) : w.rangeAt O o (((stC s).extract o (o + n)).toList) := World.rangeAt_of_block k o n
end
theorem stp_new (w : World) (s : SV) : StpAt (w.alloc (.cells (stC s) 36)) w.heap.size s := heap_alloc_new _ _
theorem wpList_load_stp {ops : Array Oper} {rest : List Oper} {o : Oper} {a : Act} {w : World} {Q : Exit → Act → World → Prop} (x : Operand) (ho : o.op = .load 36 x) (O : Nat) (s : SV) (hx : a.eval x = .pointer (some ⟨O, 0, none⟩)) (hb : StpAt w O s)
    (hw : Region.wanted o (yielded ops a.tmps) = true) (hh : wpList Tryd.prog ops Q rest (a.put o.dst (.agg (stC s))) w) : wpList Tryd.prog ops Q (o :: rest) a w := by
  refine wpList_step fun K hK => ?_
  rw [if_pos hw]
  exact wp_load_row 36 x ho O hx _ _ _ _ hb Tryd.underlying36 rfl Tryd.size_stp (hK _ _ hh)
theorem wpList_store_stp {ops : Array Oper} {rest : List Oper} {o : Oper} {a : Act} {w : World} {Q : Exit → Act → World → Prop} (x y : Operand) (ho : o.op = .store 36 x y) (hd : o.dst = none) (O : Nat) (s : SV) (s' : SV) (hx : a.eval x = .pointer (some ⟨O, 0, none⟩)) (hy : a.eval y = .agg (stC s')) (hb : StpAt w O s)
    (hw : Region.wanted o (yielded ops a.tmps) = true) (hh : ∀ w', StpAt w' O s' → Ch (fun q => q = O) w w' → wpList Tryd.prog ops Q rest a w') : wpList Tryd.prog ops Q (o :: rest) a w := by
  refine wpList_step fun K hK => ?_
  rw [if_pos hw]
  refine wp_store_row 36 x y ho O (stC s') hx hy _ (stC s) hb Tryd.size_stp rfl (by simp [stC, Value.oneCell']) (hK _ _ ?_)
  rw [hd]
  refine hh _ (setRow_heap w O _ _ _ _ hb) ⟨rfl, rfl, rfl, ?_, ?_⟩
  · simp [World.setRow]
  · intro k hk hne
    simp only [World.setRow]
    rw [Array.getElem?_modify, if_neg (fun e => hne e.symm)]
theorem wpList_alloc_stp {ops : Array Oper} {rest : List Oper} {o : Oper} {a : Act} {w : World} {Q : Exit → Act → World → Prop} (ho : o.op = .alloc 36) (hw : Region.wanted o (yielded ops a.tmps) = true)
    (h : wpList Tryd.prog ops Q rest (a.put o.dst (.pointer (some ⟨w.heap.size, 0, none⟩))) (w.alloc (.cells (stC sz) 36))) : wpList Tryd.prog ops Q (o :: rest) a w := by
  refine wpList_step fun K hK => ?_
  rw [if_pos hw]
  have hrun : (execOp a.eval o).run Tryd.prog w = .ok (.value (.pointer (some ⟨w.heap.size, 0, none⟩))) (w.alloc (.cells (stC sz) 36)) := by
    obtain ⟨dst, op, type, pos, after, guard⟩ := o
    simp only at ho
    subst ho
    simp only [execOp]
    go_simp
    rfl
  unfold Oper.wp
  rw [hrun]
  exact hK _ _ h
theorem yields_stp {ops : Array Oper} {o : Oper} {a : Act} {S : World → Prop} (x : Operand) (ho : o.op = .load 36 x) (O off : Nat) (s : SV) (hx : a.eval x = .pointer (some ⟨O, off, none⟩)) (hw : Region.wanted o (yielded ops a.tmps) = true) (hS : ∀ w, S w → w.rangeAt O off (stC s).toList) : YieldsIf Tryd.prog ops S o (.agg (stC s)) a :=
  yieldsIf_load_mid hw 36 x ho O off hx (stC s).toList _ hS Tryd.underlying36 rfl Tryd.size_stp
theorem wpList_mid_stp {ops : Array Oper} {rest : List Oper} {o : Oper} {a : Act} {w : World} {Q : Exit → Act → World → Prop} (x : Operand) (ho : o.op = .load 36 x) (O off : Nat) (s : SV) (hx : a.eval x = .pointer (some ⟨O, off, none⟩)) (hb : w.rangeAt O off (stC s).toList)
    (hw : Region.wanted o (yielded ops a.tmps) = true) (h : wpList Tryd.prog ops Q rest (a.put o.dst (.agg (stC s))) w) : wpList Tryd.prog ops Q (o :: rest) a w := by
  refine wpList_step fun K hK => ?_
  rw [if_pos hw]
  exact wp_load_mid 36 x ho O off hx (stC s).toList _ hb Tryd.underlying36 rfl Tryd.size_stp (hK _ _ h)
theorem results_stp {fn : Func} {p : Tmp} (h : fn.results = #[.cell p 36]) (tmps : Array Value) (w : World) (O : Nat) (s : SV) (hp : tmps.getD p undef = .pointer (some ⟨O, 0, none⟩)) (hb : StpAt w O s) :
    (results fn tmps).run Tryd.prog w = .ok (.agg (stC s)) w :=
  results_cell_row h tmps w O _ (stC s) _ _ hp hb Tryd.underlying36 rfl Tryd.size_stp
theorem StpAt.x {w : World} {O : Nat} {s : SV} (h : StpAt w O s) : w.rangeAt O 2 (tuC s.x).toList := by
  intro j v hj
  rw [h.cell]
  have hl : j < 37 := (List.getElem?_eq_some_iff.1 hj).1
  have : j = 0 ∨ j = 1 ∨ j = 2 ∨ j = 3 ∨ j = 4 ∨ j = 5 ∨ j = 6 ∨ j = 7 ∨ j = 8 ∨ j = 9 ∨ j = 10 ∨ j = 11 ∨ j = 12 ∨ j = 13 ∨ j = 14 ∨ j = 15 ∨ j = 16 ∨ j = 17 ∨ j = 18 ∨ j = 19 ∨ j = 20 ∨ j = 21 ∨ j = 22 ∨ j = 23 ∨ j = 24 ∨ j = 25 ∨ j = 26 ∨ j = 27 ∨ j = 28 ∨ j = 29 ∨ j = 30 ∨ j = 31 ∨ j = 32 ∨ j = 33 ∨ j = 34 ∨ j = 35 ∨ j = 36 := by omega
  clear hl
  rcases this with rfl | rfl | rfl | rfl | rfl | rfl | rfl | rfl | rfl | rfl | rfl | rfl | rfl | rfl | rfl | rfl | rfl | rfl | rfl | rfl | rfl | rfl | rfl | rfl | rfl | rfl | rfl | rfl | rfl | rfl | rfl | rfl | rfl | rfl | rfl | rfl | rfl <;> exact hj
structure SV.Wf (s : SV) : Prop where
  x : s.x.Wf
  fl : (Lit.int .i64 s.fl).wf = true
  n : (Lit.int .i64 s.n).wf = true
def stL (s : SV) : List Value := (stC s).toList
theorem stL_len (s : SV) : (stL s).length = 41 := rfl
theorem cut_at (l : List Value) (a b : Nat) : l.drop a = (l.drop a).take b ++ l.drop (a + b) := by
  have h := (List.take_append_drop b (l.drop a)).symm
  rwa [List.drop_drop] at h
theorem Tryd.cells_ipv' : Tryd.prog.cellsOf 24 = 17 := by kernel_rfl
theorem Tryd.cellsIP' : Tryd.prog.cellsOf 24 = 17 := by kernel_rfl
section
variable {H : Type} {enc : TypeId × Value → H} {W : World}
set_option maxRecDepth 100000 in
theorem open_ipw {fuel : Nat} {cs : List Value} {x : DataW H × List MemPlace} (hf : DataW.trod enc Tryd.prog W 0 (fun _ => true) true fuel 24 cs = some x) : ∃ (V : Int) (y : Nat → Nat), cs = (ipCells V y).toList ∧ (Lit.int .i64 V).wf = true ∧ ∀ i, y i < 256 := by
  obtain ⟨xs, n, _, hx, hl, hlen, hfs⟩ := DataW.trod_struct Tryd.underlying24 hf
  rw [Tryd.cellsIP'] at hl
  have f0 : DataW.trod enc Tryd.prog W 0 (fun _ => true) true n 3 ((cs.drop 0).take (Tryd.prog.cellsOf 3)) = xs[0]? := hfs 0 _ rfl
  have f1 : DataW.trod enc Tryd.prog W 0 (fun _ => true) true n 22 ((cs.drop 1).take (Tryd.prog.cellsOf 22)) = xs[1]? := hfs 1 _ rfl
  have hxl : xs.length = 2 := hlen
  rw [Tryd.cellsI'] at f0
  rw [Tryd.cellsA'] at f1
  match cs, hl with
  | c0 :: r, hsz =>
    have hr : r.length = 16 := by simpa using hsz
    rw [List.getElem?_eq_getElem (by omega)] at f0 f1
    simp only [List.drop_zero, List.drop_succ_cons, List.take_succ_cons, List.take_zero] at f0 f1
    obtain ⟨V, e0, _, wV⟩ := DataW.trod_int Tryd.underlying3 f0
    simp only [List.cons.injEq, and_true] at e0
    rw [List.take_of_length_le (by omega)] at f1
    obtain ⟨ys, m, _, _, _, hyl, hel⟩ := DataW.trod_array Tryd.underlying22 f1
    have hb : ∀ i, i < 16 → ∃ a : Nat, a < 256 ∧ r[i]? = some (.int .u8 (a : Int)) := by
      intro i hi
      have h1 := hel i hi
      rw [Tryd.cellsB', Nat.mul_one, List.getElem?_eq_getElem (by omega), List.drop_eq_getElem_cons (show i < r.length by omega), List.take_succ_cons, List.take_zero] at h1
      obtain ⟨a, e1, _, wa⟩ := DataW.trod_int Tryd.underlying5 h1
      simp only [List.cons.injEq, and_true] at e1
      simp [Lit.wf, IntKind.min, IntKind.max, IntKind.bits, IntKind.signed] at wa
      refine ⟨a.toNat, by omega, ?_⟩
      rw [List.getElem?_eq_getElem (show i < r.length by omega), e1]
      congr 2
      omega
    refine ⟨V, fun i => match r[i]? with | some (.int _ a) => a.toNat | _ => 0, ?_, wV, fun i => ?_⟩
    rotate_left
    · by_cases hi : i < 16
      · obtain ⟨a, hlt, ha⟩ := hb i hi
        simp only [ha]
        omega
      · have hn : r[i]? = none := List.getElem?_eq_none (by omega)
        simp [hn]
    rw [ipCells_eq, e0]
    congr 1
    apply List.ext_getElem?
    intro i
    by_cases hi : i < 16
    · obtain ⟨a, _, ha⟩ := hb i hi
      rw [ha]
      simp [hi, ha]
    · rw [List.getElem?_eq_none (by omega), List.getElem?_eq_none (by simp; omega)]
theorem Tryd.cells_tu' : Tryd.prog.cellsOf 34 = 37 := by kernel_rfl
set_option maxRecDepth 100000 in
theorem open_tu {fuel : Nat} {l : List Value} {x : DataW H × List MemPlace} (hf : DataW.trod enc Tryd.prog W 0 (fun _ => true) true fuel 34 l = some x) : ∃ x : TU, l = (tuC x).toList ∧ x.Wf := by
  obtain ⟨xs, n, _, hx, hl, hlen, hfs⟩ := DataW.trod_struct Tryd.underlying34 hf
  rw [Tryd.cells_tu'] at hl
  have hxl : xs.length = 5 := hlen
  have f0 : DataW.trod enc Tryd.prog W 0 (fun _ => true) true n 3 ((l.drop 0).take (Tryd.prog.cellsOf 3)) = xs[0]? := hfs 0 _ rfl
  have f1 : DataW.trod enc Tryd.prog W 0 (fun _ => true) true n 24 ((l.drop 1).take (Tryd.prog.cellsOf 24)) = xs[1]? := hfs 1 _ rfl
  have f2 : DataW.trod enc Tryd.prog W 0 (fun _ => true) true n 24 ((l.drop 18).take (Tryd.prog.cellsOf 24)) = xs[2]? := hfs 2 _ rfl
  have f3 : DataW.trod enc Tryd.prog W 0 (fun _ => true) true n 3 ((l.drop 35).take (Tryd.prog.cellsOf 3)) = xs[3]? := hfs 3 _ rfl
  have f4 : DataW.trod enc Tryd.prog W 0 (fun _ => true) true n 3 ((l.drop 36).take (Tryd.prog.cellsOf 3)) = xs[4]? := hfs 4 _ rfl
  rw [Tryd.cellsI', List.getElem?_eq_getElem (by omega)] at f0
  rw [Tryd.cells_ipv', List.getElem?_eq_getElem (by omega)] at f1
  rw [Tryd.cells_ipv', List.getElem?_eq_getElem (by omega)] at f2
  rw [Tryd.cellsI', List.getElem?_eq_getElem (by omega)] at f3
  rw [Tryd.cellsI', List.getElem?_eq_getElem (by omega)] at f4
  obtain ⟨p, e0, _, wp⟩ := DataW.trod_int Tryd.underlying3 f0
  obtain ⟨V, y, e1, wV, hy⟩ := open_ipw f1
  obtain ⟨U, z, e2, wU, hz⟩ := open_ipw f2
  obtain ⟨s, e3, _, ws⟩ := DataW.trod_int Tryd.underlying3 f3
  obtain ⟨d, e4, _, wd⟩ := DataW.trod_int Tryd.underlying3 f4
  have z4 : (l.drop 36).take 1 = l.drop 36 := List.take_of_length_le (by rw [List.length_drop]; omega)
  have z0 : l.drop 0 = (l.drop 0).take 1 ++ l.drop 1 := cut_at l 0 1
  have z1 : l.drop 1 = (l.drop 1).take 17 ++ l.drop 18 := cut_at l 1 17
  have z2 : l.drop 18 = (l.drop 18).take 17 ++ l.drop 35 := cut_at l 18 17
  have z3 : l.drop 35 = (l.drop 35).take 1 ++ l.drop 36 := cut_at l 35 1
  have hlq : l = (l.drop 0).take 1 ++ ((l.drop 1).take 17 ++ ((l.drop 18).take 17 ++ ((l.drop 35).take 1 ++ ((l.drop 36).take 1)))) := by rw [z4, ← z3, ← z2, ← z1, ← z0, List.drop_zero]
  refine ⟨⟨p, V, y, U, z, s, d⟩, ?_, ⟨wp, wV, fun i _ => hy i, wU, fun i _ => hz i, ws, wd⟩⟩
  rw [hlq, e0, e1, e2, e3, e4]
  rfl
theorem Tryd.cells_st' : Tryd.prog.cellsOf 36 = 41 := by kernel_rfl
set_option maxRecDepth 100000 in
theorem open_st {fuel : Nat} {l : List Value} {x : DataW H × List MemPlace} (hf : DataW.trod enc Tryd.prog W 0 (fun _ => true) true fuel 36 l = some x) : ∃ s : SV, l = stL s ∧ s.Wf := by
  obtain ⟨xs, n, _, hx, hl, hlen, hfs⟩ := DataW.trod_struct Tryd.underlying36 hf
  rw [Tryd.cells_st'] at hl
  have hxl : xs.length = 5 := hlen
  have f0 : DataW.trod enc Tryd.prog W 0 (fun _ => true) true n 3 ((l.drop 0).take (Tryd.prog.cellsOf 3)) = xs[0]? := hfs 0 _ rfl
  have f1 : DataW.trod enc Tryd.prog W 0 (fun _ => true) true n 3 ((l.drop 1).take (Tryd.prog.cellsOf 3)) = xs[1]? := hfs 1 _ rfl
  have f2 : DataW.trod enc Tryd.prog W 0 (fun _ => true) true n 34 ((l.drop 2).take (Tryd.prog.cellsOf 34)) = xs[2]? := hfs 2 _ rfl
  have f3 : DataW.trod enc Tryd.prog W 0 (fun _ => true) true n 3 ((l.drop 39).take (Tryd.prog.cellsOf 3)) = xs[3]? := hfs 3 _ rfl
  have f4 : DataW.trod enc Tryd.prog W 0 (fun _ => true) true n 3 ((l.drop 40).take (Tryd.prog.cellsOf 3)) = xs[4]? := hfs 4 _ rfl
  rw [Tryd.cellsI', List.getElem?_eq_getElem (by omega)] at f0
  rw [Tryd.cellsI', List.getElem?_eq_getElem (by omega)] at f1
  rw [Tryd.cells_tu', List.getElem?_eq_getElem (by omega)] at f2
  rw [Tryd.cellsI', List.getElem?_eq_getElem (by omega)] at f3
  rw [Tryd.cellsI', List.getElem?_eq_getElem (by omega)] at f4
  obtain ⟨k, e0, _, _⟩ := DataW.trod_int Tryd.underlying3 f0
  obtain ⟨b, e1, _, _⟩ := DataW.trod_int Tryd.underlying3 f1
  obtain ⟨x, e2, hx2⟩ := open_tu f2
  obtain ⟨f, e3, _, wf⟩ := DataW.trod_int Tryd.underlying3 f3
  obtain ⟨m, e4, _, wm⟩ := DataW.trod_int Tryd.underlying3 f4
  have z4 : (l.drop 40).take 1 = l.drop 40 := List.take_of_length_le (by rw [List.length_drop]; omega)
  have z0 : l.drop 0 = (l.drop 0).take 1 ++ l.drop 1 := cut_at l 0 1
  have z1 : l.drop 1 = (l.drop 1).take 1 ++ l.drop 2 := cut_at l 1 1
  have z2 : l.drop 2 = (l.drop 2).take 37 ++ l.drop 39 := cut_at l 2 37
  have z3 : l.drop 39 = (l.drop 39).take 1 ++ l.drop 40 := cut_at l 39 1
  have hlq : l = (l.drop 0).take 1 ++ ((l.drop 1).take 1 ++ ((l.drop 2).take 37 ++ ((l.drop 39).take 1 ++ ((l.drop 40).take 1)))) := by rw [z4, ← z3, ← z2, ← z1, ← z0, List.drop_zero]
  refine ⟨⟨k, b, x, f, m⟩, ?_, ⟨hx2, wf, wm⟩⟩
  rw [hlq, e0, e1, e2, e3, e4]
  rfl
theorem Tryd.cells_cf' : Tryd.prog.cellsOf 26 = 25 := by kernel_rfl
set_option maxRecDepth 100000 in
theorem open_cf {fuel : Nat} {l : List Value} {x : DataW H × List MemPlace} (hf : DataW.trod enc Tryd.prog W 0 (fun _ => true) true fuel 26 l = some x) : ∃ c : CF, l = (cfC c).toList ∧ ∀ i, i < 16 → c.o i < 256 := by
  obtain ⟨xs, n, _, hx, hl, hlen, hfs⟩ := DataW.trod_struct Tryd.underlying26 hf
  rw [Tryd.cells_cf'] at hl
  have hxl : xs.length = 9 := hlen
  have f0 : DataW.trod enc Tryd.prog W 0 (fun _ => true) true n 3 ((l.drop 0).take (Tryd.prog.cellsOf 3)) = xs[0]? := hfs 0 _ rfl
  have f1 : DataW.trod enc Tryd.prog W 0 (fun _ => true) true n 24 ((l.drop 1).take (Tryd.prog.cellsOf 24)) = xs[1]? := hfs 1 _ rfl
  have f2 : DataW.trod enc Tryd.prog W 0 (fun _ => true) true n 3 ((l.drop 18).take (Tryd.prog.cellsOf 3)) = xs[2]? := hfs 2 _ rfl
  have f3 : DataW.trod enc Tryd.prog W 0 (fun _ => true) true n 3 ((l.drop 19).take (Tryd.prog.cellsOf 3)) = xs[3]? := hfs 3 _ rfl
  have f4 : DataW.trod enc Tryd.prog W 0 (fun _ => true) true n 3 ((l.drop 20).take (Tryd.prog.cellsOf 3)) = xs[4]? := hfs 4 _ rfl
  have f5 : DataW.trod enc Tryd.prog W 0 (fun _ => true) true n 3 ((l.drop 21).take (Tryd.prog.cellsOf 3)) = xs[5]? := hfs 5 _ rfl
  have f6 : DataW.trod enc Tryd.prog W 0 (fun _ => true) true n 3 ((l.drop 22).take (Tryd.prog.cellsOf 3)) = xs[6]? := hfs 6 _ rfl
  have f7 : DataW.trod enc Tryd.prog W 0 (fun _ => true) true n 3 ((l.drop 23).take (Tryd.prog.cellsOf 3)) = xs[7]? := hfs 7 _ rfl
  have f8 : DataW.trod enc Tryd.prog W 0 (fun _ => true) true n 3 ((l.drop 24).take (Tryd.prog.cellsOf 3)) = xs[8]? := hfs 8 _ rfl
  rw [Tryd.cellsI', List.getElem?_eq_getElem (by omega)] at f0
  rw [Tryd.cells_ipv', List.getElem?_eq_getElem (by omega)] at f1
  rw [Tryd.cellsI', List.getElem?_eq_getElem (by omega)] at f2
  rw [Tryd.cellsI', List.getElem?_eq_getElem (by omega)] at f3
  rw [Tryd.cellsI', List.getElem?_eq_getElem (by omega)] at f4
  rw [Tryd.cellsI', List.getElem?_eq_getElem (by omega)] at f5
  rw [Tryd.cellsI', List.getElem?_eq_getElem (by omega)] at f6
  rw [Tryd.cellsI', List.getElem?_eq_getElem (by omega)] at f7
  rw [Tryd.cellsI', List.getElem?_eq_getElem (by omega)] at f8
  obtain ⟨a, e0, _, _⟩ := DataW.trod_int Tryd.underlying3 f0
  obtain ⟨V, y, e1, _, hy⟩ := open_ipw f1
  obtain ⟨b0, e2, _, _⟩ := DataW.trod_int Tryd.underlying3 f2
  obtain ⟨b1, e3, _, _⟩ := DataW.trod_int Tryd.underlying3 f3
  obtain ⟨b2, e4, _, _⟩ := DataW.trod_int Tryd.underlying3 f4
  obtain ⟨b3, e5, _, _⟩ := DataW.trod_int Tryd.underlying3 f5
  obtain ⟨b4, e6, _, _⟩ := DataW.trod_int Tryd.underlying3 f6
  obtain ⟨b5, e7, _, _⟩ := DataW.trod_int Tryd.underlying3 f7
  obtain ⟨b6, e8, _, _⟩ := DataW.trod_int Tryd.underlying3 f8
  have z8 : (l.drop 24).take 1 = l.drop 24 := List.take_of_length_le (by rw [List.length_drop]; omega)
  have z0 : l.drop 0 = (l.drop 0).take 1 ++ l.drop 1 := cut_at l 0 1
  have z1 : l.drop 1 = (l.drop 1).take 17 ++ l.drop 18 := cut_at l 1 17
  have z2 : l.drop 18 = (l.drop 18).take 1 ++ l.drop 19 := cut_at l 18 1
  have z3 : l.drop 19 = (l.drop 19).take 1 ++ l.drop 20 := cut_at l 19 1
  have z4 : l.drop 20 = (l.drop 20).take 1 ++ l.drop 21 := cut_at l 20 1
  have z5 : l.drop 21 = (l.drop 21).take 1 ++ l.drop 22 := cut_at l 21 1
  have z6 : l.drop 22 = (l.drop 22).take 1 ++ l.drop 23 := cut_at l 22 1
  have z7 : l.drop 23 = (l.drop 23).take 1 ++ l.drop 24 := cut_at l 23 1
  have hlq : l = (l.drop 0).take 1 ++ ((l.drop 1).take 17 ++ ((l.drop 18).take 1 ++ ((l.drop 19).take 1 ++ ((l.drop 20).take 1 ++ ((l.drop 21).take 1 ++ ((l.drop 22).take 1 ++ ((l.drop 23).take 1 ++ ((l.drop 24).take 1)))))))) := by rw [z8, ← z7, ← z6, ← z5, ← z4, ← z3, ← z2, ← z1, ← z0, List.drop_zero]
  refine ⟨⟨a, V, y, b0, b1, b2, b3, b4, b5, b6⟩, ?_, fun i _ => hy i⟩
  rw [hlq, e0, e1, e2, e3, e4, e5, e6, e7, e8]
  rfl
set_option maxRecDepth 100000 in
theorem open_steps {fuel : Nat} {a : Option Addr} {len cap : Nat} {d : DataW H} {p : List MemPlace} (hf : DataW.trod enc Tryd.prog W 0 (fun _ => true) true fuel 27 [.slice a len cap] = some (d, p)) (hb : Rows.uptoBulk d ≤ 1048576) :
    ∃ rs : List SV, rs.length = len ∧ ListG 41 stL SV.Wf W a rs ∧ len ≤ 1048576 :=
  open_list 41 stL SV.Wf Tryd.underlying27 Tryd.cells_st' (by decide) stL_len (fun _ _ _ h _ => open_st h) hf hb
set_option maxRecDepth 100000 in
theorem open_cfg {base : Nat} {v : Value} {d : DataW H} {p : List MemPlace} (hv : Value.okWide Tryd.prog W .any base 26 v)
    (h : DataW.Trod enc Tryd.prog W 0 (fun _ => true) true 26 v d p) : ∃ c : CF, v = .agg (cfC c) ∧ ∀ i, i < 16 → c.o i < 256 := by
  obtain ⟨cs, rfl, _⟩ := okWide_struct Tryd.underlying26 hv
  obtain ⟨fuel, hf⟩ := h
  obtain ⟨l⟩ := cs
  have hf' : DataW.trod enc Tryd.prog W 0 (fun _ => true) true fuel 26 l = some (d, p) := hf
  obtain ⟨c, e, h⟩ := open_cf hf'
  exact ⟨c, by rw [e], h⟩
end
/-- the i-th step, where it lies -/
theorem st_at {w w' : World} {a : Option Addr} {ss : List SV} (h : ListG 41 stL SV.Wf w a ss) (b : Below w.heap.size w w') (i : Nat) (hi : i < ss.length) : ∃ s : SV, s.Wf ∧ ∃ g off, a = some ⟨g, off, none⟩ ∧ w'.rangeAt g (off + i * 41) (stC s).toList := by
  obtain ⟨hok, g, off, ha, hlt, hc⟩ := (ListG.old h b).at i ss[i] (List.getElem?_eq_getElem hi)
  refine ⟨ss[i], hok, g, off, ha, fun j v hj => ?_⟩
  have hj' : j < 41 := (List.getElem?_eq_some_iff.1 hj).1
  rw [hc j hj']
  exact hj
end Go.Proofs.YtclpeepnngegaaaDoor
namespace Go.Proofs.YtclpeepnngegaaaDoor
open Go.RowKit Go.Maps

theorem out_new {c : CF} {E : List FV} {x : TU} {fl : Int} {B : Nat} {er : Int} {y : TU} {E' : List FV} {v po : Int} (h : OutR c E x fl B er y E') (h1 : ckE x = 0) (h2 : fF E x = none) (h3 : oT 0 (sgN x.pr fl) = v) (hv : v ≠ 0) (h4 : bgE c E x = 0) (h5 : fpO c E x = some po) : er = 0 ∧ y = ouT c ⟨x, po, 0, 0⟩ ∧ ∃ P, B ≤ P ∧ E' = E ++ [⟨⟨x, po, v, tkN c x.pr v⟩, P⟩] := by
  rcases h with ⟨h, _⟩ | ⟨_, e, hf, _⟩ | ⟨_, hn, ⟨h, _⟩ | ⟨_, h, _⟩ | ⟨_, _, he, po', P, hpo, hP, hy, hE⟩⟩
  · exact absurd h1 h
  · rw [h2] at hf; cases hf
  · rw [h3] at h; exact absurd h hv
  · exact absurd h4 h
  · rw [h5] at hpo
    obtain rfl := Option.some.inj hpo
    rw [h3] at hE
    exact ⟨he, hy, P, hP, hE⟩
theorem in_same {c : CF} {E : List FV} {x : TU} {fl : Int} {er : Int} {y : TU} {E' : List FV} {e : FV} {v : Int} (h : InR c E x fl er y E') (h1 : ckE x = 0) (h2 : awO c E x = some e) (h3 : iT e.n.st (sgN x.pr fl) = v) (hv : v ≠ 0) : er = 0 ∧ y = e.n.x.rev ∧ E' = turnE c E e v := by
  rcases h with ⟨h, _⟩ | ⟨_, h, _⟩ | ⟨_, e', hf, ⟨h, _⟩ | ⟨_, he, hy, hE⟩⟩
  · exact absurd h1 h
  · rw [h2] at h; cases h
  · rw [h2] at hf
    obtain rfl := Option.some.inj hf
    rw [h3] at h
    exact absurd h hv
  · rw [h2] at hf
    obtain rfl := Option.some.inj hf
    rw [h3] at hE
    exact ⟨he, hy, hE⟩
theorem wf_q4 (p : Int) (a b c d a' b' c' d' : Nat) (s r : Int) (hp : -9223372036854775808 ≤ p ∧ p ≤ 9223372036854775807) (hs : -9223372036854775808 ≤ s ∧ s ≤ 9223372036854775807) (hr : -9223372036854775808 ≤ r ∧ r ≤ 9223372036854775807) (ha : a < 256 ∧ b < 256 ∧ c < 256 ∧ d < 256) (ha' : a' < 256 ∧ b' < 256 ∧ c' < 256 ∧ d' < 256) : TU.Wf ⟨p, 4, q4 a b c d, 4, q4 a' b' c' d', s, r⟩ :=
  ⟨wf_i64 hp.1 hp.2, wf_i64 (n := 4) (by decide) (by decide), fun i _ => q4_lt ha.1 ha.2.1 ha.2.2.1 ha.2.2.2 i, wf_i64 (n := 4) (by decide) (by decide), fun i _ => q4_lt ha'.1 ha'.2.1 ha'.2.2.1 ha'.2.2.2 i, wf_i64 hs.1 hs.2, wf_i64 hr.1 hr.2⟩
def y0 : TU := ⟨17, 4, o0, 4, d0, 1000, 53⟩
theorem x0_wf : x0.Wf := wf_q4 17 10 0 0 1 198 51 100 7 5000 53 (by decide) (by decide) (by decide) (by decide) (by decide)
theorem y0_wf : y0.Wf := wf_q4 17 192 0 2 9 198 51 100 7 1000 53 (by decide) (by decide) (by decide) (by decide) (by decide)
theorem cf0_o : ∀ i, i < 16 → cf0.o i < 256 := fun i _ => q4_lt (by decide) (by decide) (by decide) (by decide) i
theorem cf0_b : cfB cf0 = true := by decide +kernel
theorem x0_ck : ckE x0 = 0 := by decide +kernel
theorem y0_ck : ckE y0.rev = 0 := by decide +kernel
theorem sg0 : sgN 17 0 = 6 := by decide +kernel
theorem oT06 : oT 0 6 = 7 := by decide
theorem iT76 : iT 7 6 = 7 := by decide
theorem bg0 : bgE cf0 [] x0 = 0 := by decide +kernel
theorem fp0 : fpO cf0 [] x0 = some 1000 := by decide +kernel
theorem ou0 : ouT cf0 ⟨x0, 1000, 0, 0⟩ = y0 := rfl
theorem tk0 : tkN cf0 17 7 = 4 := rfl
theorem fQ_one {e : FV} {p : PL} (h1 : isF e = true) (h2 : eqQ e.kq.p p = true) : fQ [e] p = some e := by
  unfold fQ
  simp [h1, h2]
theorem ou_y0 : eqP (ouT cf0 ⟨x0, 1000, 7, 4⟩) y0 = true := by decide +kernel
theorem aw0 (P : Nat) : awO cf0 [⟨⟨x0, 1000, 7, 4⟩, P⟩] y0.rev = some ⟨⟨x0, 1000, 7, 4⟩, P⟩ := by
  unfold awO
  rw [show (y0.rev.dV == 6) = false from rfl]
  show (fQ [⟨⟨x0, 1000, 7, 4⟩, P⟩] ⟨17, 1000⟩).bind _ = _
  rw [fQ_one (e := ⟨⟨x0, 1000, 7, 4⟩, P⟩) rfl rfl]
  show (if eqP (ouT cf0 ⟨x0, 1000, 7, 4⟩) y0 then some _ else none) = _
  rw [ou_y0]
  rfl
theorem turn0_len (c : CF) (e : FV) : (turnE c [e] e 7).length = 1 := rfl
set_option maxHeartbeats 1600000 in
set_option maxRecDepth 100000 in
theorem begun_any (w : World) (g : Gl w) : Calls Tryd.prog 9 #[] w fun r w' => r = .returned (.bool true) ∧ Below w.heap.size w w' := by
  have HG : Hid (Gl w) := g
  clear g
  have Q1 : Hid _ := config0_any w
  go_enter Tryd.func9, Tryd.ntmps9
  go_wp2_with fail
  refine Calls.mono Q1.out ?_
  rintro e1 w1 ⟨rfl, b1⟩
  have Q2 : Hid _ := ft_new cf0 w1 w cf0_o cf0_b HG.out b1
  clear Q1 b1
  go_wp2_with fail
  refine Calls.mono Q2.out ?_
  rintro e2 w2 ⟨t, M, N, rfl, hF2, _⟩
  have H2 : Hid (FT w t M N cf0 [] w2) := hF2
  clear hF2 Q2
  have Q3 : Hid _ := ask0_any w2
  go_wp2_with fail
  refine Calls.mono Q3.out ?_
  rintro e3 w3 ⟨rfl, b3⟩
  have Q4 : Hid _ := (H2.out.below b3).out HG.out x0 x0_wf 0
  clear Q3 b3 H2
  go_wp2_with fail
  refine Calls.mono Q4.out ?_
  rintro e4 w4 ⟨er, y, E', rfl, hR, hF4, _⟩
  obtain ⟨her, hy, P, hP, hE⟩ := out_new hR x0_ck rfl (v := 7) (by decide +kernel) (by decide) bg0 fp0
  subst her
  rw [ou0] at hy
  subst hy
  have H4 : Hid (FT w t M N cf0 [⟨⟨x0, 1000, 7, 4⟩, P⟩] w4) := by show FT w t M N cf0 _ w4; rw [hE] at hF4; exact hF4
  clear hR hF4 hP hE Q4
  obtain ⟨Y3, hY⟩ : ∃ Y, Y = w4.alloc (.cells (tuC xz) 34) := ⟨_, rfl⟩
  have bY : Below w4.heap.size w4 Y3 := by rw [hY]; exact (Below.refl _ _).alloc (Nat.le_refl _) _
  obtain ⟨O3, hO⟩ : ∃ O, O = w4.heap.size := ⟨_, rfl⟩
  have HNY : Hid (TupAt Y3 O3 xz) := by show TupAt Y3 O3 xz; rw [hY, hO]; exact tup_new w4 xz
  have HLY : Hid (Below w4.heap.size w4 Y3) := bY
  have HEY : Hid (w4.alloc (.cells (tuC xz) 34) = Y3) := hY.symm
  have HOY : Hid (w4.heap.size = O3) := hO.symm
  clear hY bY hO
  go_wp2_with (first | (refine wpList_alloc_tup rfl rfl ?_; rw [HEY.out, HOY.out]) | (refine wpList_store_tup (.tmp 3) (.tmp 21) rfl rfl O3 xz y0 rfl rfl HNY.out rfl ?_))
  intro w5 h5 k5
  have H5 : Hid (FT w t M N cf0 [⟨⟨x0, 1000, 7, 4⟩, P⟩] w5 ∧ TupAt w5 O3 y0) := by
    have b5 : Below w4.heap.size w4 w5 := HLY.out.trans (k5.below (fun q hq => by have hq' : q = O3 := hq; have := HOY.out; omega) HLY.out.size)
    exact ⟨H4.out.below b5, h5⟩
  clear h5 k5 H4 HNY HLY HEY HOY
  have Q6 : Hid _ := reverse_any y0 w5
  go_wp2_with (first | (refine wpList_load_tup (.tmp 3) rfl O3 y0 rfl H5.out.2 rfl ?_))
  refine Calls.mono Q6.out ?_
  rintro e6 w6 ⟨rfl, b6⟩
  have H6 : Hid (FT w t M N cf0 [⟨⟨x0, 1000, 7, 4⟩, P⟩] w6 ∧ TupAt w6 O3 y0) := ⟨H5.out.1.below b6, H5.out.2.below b6⟩
  clear b6 Q6 H5
  have Q7 : Hid _ := H6.out.1.inn HG.out y0.rev y0_wf.rev 0
  go_wp2_with fail
  refine Calls.mono Q7.out ?_
  rintro e7 w7 ⟨er, z, E', rfl, hR, hF7, k7⟩
  obtain ⟨her, hz, hE⟩ := in_same hR y0_ck (aw0 P) (v := 7) (show iT 7 (sgN 17 0) = 7 by decide +kernel) (by decide)
  subst her
  have hz' : z = x0.rev := hz
  subst hz'
  obtain ⟨E7, hE7⟩ : ∃ E7, E7 = E' := ⟨_, rfl⟩
  have H7 : Hid (FT w t M N cf0 E7 w7 ∧ TupAt w7 O3 y0 ∧ E7.length = 1) := by
    refine ⟨by rw [hE7]; exact hF7, H6.out.2.ch k7 (fun q => ?_), by rw [hE7, hE]; exact turn0_len _ _⟩
    rcases q with h | h | h | ⟨a, ha, h⟩
    · have h1 := H6.out.2; have h2 := H6.out.1.ta.cb; unfold TupAt at h1; unfold TblAt at h2; rw [h, h2] at h1; simp only [Option.some.injEq, Obj.cells.injEq] at h1; exact absurd h1.2.1 (by decide)
    · obtain ⟨D, hD⟩ := H6.out.1.ta.ma; obtain ⟨es, ck, hb⟩ := hD.blk; exact tup_ne H6.out.2 hb h
    · obtain ⟨D, hD⟩ := H6.out.1.ta.mb; obtain ⟨es, ck, hb⟩ := hD.blk; exact tup_ne H6.out.2 hb h
    · have h1 := H6.out.2; have h2 := H6.out.1.ta.en a ha; unfold TupAt at h1; unfold FloAt at h2; rw [h, h2] at h1; simp only [Option.some.injEq, Obj.cells.injEq] at h1; exact absurd h1.2.1 (by decide)
  clear hR hF7 k7 hE hz Q7 H6 hE7
  obtain ⟨Y4, hY⟩ : ∃ Y, Y = w7.alloc (.cells (tuC xz) 34) := ⟨_, rfl⟩
  have bY : Below w7.heap.size w7 Y4 := by rw [hY]; exact (Below.refl _ _).alloc (Nat.le_refl _) _
  obtain ⟨O4, hO⟩ : ∃ O, O = w7.heap.size := ⟨_, rfl⟩
  have HNY : Hid (TupAt Y4 O4 xz) := by show TupAt Y4 O4 xz; rw [hY, hO]; exact tup_new w7 xz
  have HLY : Hid (Below w7.heap.size w7 Y4) := bY
  have HEY : Hid (w7.alloc (.cells (tuC xz) 34) = Y4) := hY.symm
  have HOY : Hid (w7.heap.size = O4) := hO.symm
  clear hY bY hO
  go_wp2_with (first | (refine wpList_alloc_tup rfl rfl ?_; rw [HEY.out, HOY.out]) | (refine wpList_store_tup (.tmp 4) (.tmp 28) rfl rfl O4 xz x0.rev rfl rfl HNY.out rfl ?_))
  intro w8 h8 k8
  have H8 : Hid (TupAt w8 O3 y0 ∧ TupAt w8 O4 x0.rev ∧ FT w t M N cf0 E7 w8 ∧ E7.length = 1) := by
    have b8 : Below w7.heap.size w7 w8 := HLY.out.trans (k8.below (fun q hq => by have hq' : q = O4 := hq; have := HOY.out; omega) HLY.out.size)
    exact ⟨H7.out.2.1.below b8, h8, H7.out.1.below b8, H7.out.2.2⟩
  clear h8 k8 H7 HNY HLY HEY HOY
  go_upto_region 6 with fail
  refine MixH.start (fun A => TupAt A O3 y0 ∧ TupAt A O4 x0.rev ∧ FT w t M N cf0 E7 A) (by kernel_rfl) ?_
  obtain ⟨wA, hwA⟩ : ∃ wA, wA = w8.drew := ⟨_, rfl⟩
  have bdr : Below w8.heap.size w8 wA := by rw [hwA]; exact (Below.refl _ _).drew
  have hS : TupAt wA O3 y0 ∧ TupAt wA O4 x0.rev ∧ FT w t M N cf0 E7 wA := ⟨H8.out.1.below bdr, H8.out.2.1.below bdr, H8.out.2.2.1.below bdr⟩
  have HLN : Hid (E7.length = 1) := H8.out.2.2.2
  rw [← hwA]
  clear hwA bdr H8
  refine MixH.takes [true, true, true, true, true, true, true, true] 15 (by kernel_rfl) (by kernel_rfl) (by decide) (by kernel_rfl) hS (fun K hK => ?_)
  simp only [Mix.pick]
  repeat (go_big_quiet_step (fail))
  refine wpQuiet_nil (hK _ ?_)
  clear hK K
  refine MixH.take 14 8 _ (.int .i64 1000) rfl (by kernel_rfl) (by kernel_rfl) (by kernel_rfl) (by kernel_rfl) (yields_int (.tmp 37) rfl ⟨O3, 35, none⟩ (.int .i64 1000) rfl rfl (fun A hA => hA.1.c35)) hS (fun a' ha => ?_)
  simp only [Act.put, List.setIfInBounds_toArray, List.set_cons_succ, List.set_cons_zero] at ha
  subst ha
  refine MixH.takes [false, false, false, false, false, false, false, false, false, true, true, true] 11 (by kernel_rfl) (by kernel_rfl) (by decide) (by kernel_rfl) hS (fun K hK => ?_)
  simp only [Mix.pick]
  repeat (go_big_quiet_step (fail))
  refine wpQuiet_nil (hK _ ?_)
  clear hK K
  refine MixH.take 10 12 _ (.agg (tuC x0.rev)) rfl (by kernel_rfl) (by kernel_rfl) (by kernel_rfl) (by kernel_rfl) (yields_tup (.tmp 4) rfl O4 0 x0.rev rfl rfl (fun A hA => hA.2.1.all)) hS (fun a' ha => ?_)
  simp only [Act.put, List.setIfInBounds_toArray, List.set_cons_succ, List.set_cons_zero] at ha
  subst ha
  refine MixH.one [false, false, false, false, false, false, false, false, false, false, false, false, false, true] 9 13 _ rfl rfl (by kernel_rfl) (by kernel_rfl) (fun K hK => ?_)
  simp only [Mix.pick]
  go_wp2_with fail
  refine Calls.mono (ask0_any wA) ?_
  rintro e9 w9 ⟨rfl, b9⟩
  replace hS : TupAt w9 O3 y0 ∧ TupAt w9 O4 x0.rev ∧ FT w t M N cf0 E7 w9 := ⟨hS.1.below b9, hS.2.1.below b9, hS.2.2.below b9⟩
  clear b9
  go_wp2_with fail
  refine ⟨rfl, hK _ _ hS ?_⟩
  clear hK K
  refine MixH.one [false, false, false, false, false, false, false, false, false, false, false, false, false, false, true] 8 14 _ rfl rfl (by kernel_rfl) (by kernel_rfl) (fun K hK => ?_)
  simp only [Mix.pick]
  go_wp2_with fail
  refine Calls.mono (reverse_any x0 w9) ?_
  rintro e10 w10 ⟨rfl, b10⟩
  replace hS : TupAt w10 O3 y0 ∧ TupAt w10 O4 x0.rev ∧ FT w t M N cf0 E7 w10 := ⟨hS.1.below b10, hS.2.1.below b10, hS.2.2.below b10⟩
  clear b10
  go_wp2_with fail
  refine ⟨rfl, hK _ _ hS ?_⟩
  clear hK K
  refine MixH.take 7 15 _ (.bool true) rfl (by kernel_rfl) (by kernel_rfl) (by kernel_rfl) (by kernel_rfl) (yields_eql_tu (.tmp 42) (.tmp 44) rfl x0.rev x0.rev rfl rfl true (eqP_refl _) rfl) hS (fun a' ha => ?_)
  simp only [Act.put, List.setIfInBounds_toArray, List.set_cons_succ, List.set_cons_zero] at ha
  subst ha
  refine MixH.takes [false, false, false, false, false, false, false, false, false, false, false, false, false, false, false, false, true, true, true] 4 (by kernel_rfl) (by kernel_rfl) (by decide) (by kernel_rfl) hS (fun K hK => ?_)
  simp only [Mix.pick]
  repeat (go_big_quiet_step (fail))
  refine wpQuiet_nil (hK _ ?_)
  clear hK K
  refine MixH.one [false, false, false, false, false, false, false, false, false, false, false, false, false, false, false, false, false, false, false, true] 3 19 _ rfl rfl (by kernel_rfl) (by kernel_rfl) (fun K hK => ?_)
  simp only [Mix.pick]
  go_wp2_with fail
  refine Calls.mono hS.2.2.lens ?_
  rintro e11 w11 ⟨rfl, rfl⟩
  rw [HLN.out]
  go_wp2_with fail
  refine ⟨rfl, hK _ _ hS ?_⟩
  clear hK K
  refine MixH.takes [false, false, false, false, false, false, false, false, false, false, false, false, false, false, false, false, false, false, false, false, true, true, true] 0 (by kernel_rfl) (by kernel_rfl) (by decide) (by kernel_rfl) hS (fun K hK => ?_)
  simp only [Mix.pick]
  repeat (go_big_quiet_step (fail))
  refine wpQuiet_nil (hK _ ?_)
  clear hK K
  refine MixH.done (by kernel_rfl) ?_
  have HE : Hid (Below w.heap.size w w10) := hS.2.2.bel
  clear hS
  go_wp2_with fail
  go_ret
  exact ⟨rfl, HE.out⟩
end Go.Proofs.YtclpeepnngegaaaDoor
namespace Go.Proofs.YtclpeepnngegaaaDoor
open Go.RowKit Go.Maps

theorem topA (a m : Nat) (h : m < 8) : a / 2 ^ (8 - (m + 1)) = 2 * (a / 2 ^ (8 - m)) + a / 2 ^ (7 - m) % 2 := by
  rw [show 8 - (m + 1) = 7 - m by omega, show 8 - m = (7 - m) + 1 by omega, Nat.pow_succ, ← Nat.div_div_eq_div_mul]
  omega
theorem top_iff {a b : Nat} (ha : a < 256) (hb : b < 256) : ∀ m, m ≤ 8 → ((∀ i, i < m → a / 2 ^ (7 - i) % 2 = b / 2 ^ (7 - i) % 2) ↔ a / 2 ^ (8 - m) = b / 2 ^ (8 - m))
  | 0, _ => by
    have e1 : a / 2 ^ (8 - 0) = 0 := Nat.div_eq_of_lt (by simpa using ha)
    have e2 : b / 2 ^ (8 - 0) = 0 := Nat.div_eq_of_lt (by simpa using hb)
    rw [e1, e2]
    exact ⟨fun _ => rfl, fun _ i hi => by omega⟩
  | m + 1, h => by
    have ih := top_iff ha hb m (by omega)
    have k1 := topA a m (by omega)
    have k2 := topA b m (by omega)
    constructor
    · intro hall
      have h1 := ih.1 (fun i hi => hall i (by omega))
      have h2 := hall m (by omega)
      omega
    · intro heq i hi
      have h1 : a / 2 ^ (8 - m) = b / 2 ^ (8 - m) := by omega
      by_cases him : i = m
      · subst him; omega
      · exact ih.2 h1 i (by omega)
theorem mk_fin : ∀ (m : Fin 9) (a : Fin 256), a.val &&& (255 * 2 ^ (8 - m.val) % 256) = a.val / 2 ^ (8 - m.val) * 2 ^ (8 - m.val) := by decide +kernel
theorem hd_top (x : Nat → Nat) (n j : Nat) (hx : x j < 256) : hdA x n j = x j / 2 ^ (8 - min 8 (n - 8 * j)) * 2 ^ (8 - min 8 (n - 8 * j)) := by
  unfold hdA
  split
  · rename_i h
    rw [show min 8 (n - 8 * j) = 8 by omega]
    simp
  · rename_i h
    unfold mkA
    rw [show min 8 (n - 8 * j) = n - 8 * j by omega]
    exact mk_fin ⟨n - 8 * j, by omega⟩ ⟨x j, hx⟩
theorem bits_iff {x p : Nat → Nat} {n : Nat} (hn : n ≤ 128) (hx : ∀ i, i < 16 → x i < 256) (hp : ∀ i, i < 16 → p i < 256) : ((List.range n).all fun i => btN p i == btN x i) = true ↔ ∀ j, j < 16 → hdA x n j = hdA p n j := by
  rw [List.all_eq_true]
  constructor
  · intro h j hj
    rw [hd_top x n j (hx j hj), hd_top p n j (hp j hj)]
    have := (top_iff (hp j hj) (hx j hj) (min 8 (n - 8 * j)) (by omega)).1 (fun i hi => by
      have h1 := h (8 * j + i) (List.mem_range.2 (by omega))
      simp only [btN, beq_iff_eq] at h1
      rw [show (8 * j + i) / 8 = j by omega, show (8 * j + i) % 8 = i by omega] at h1
      exact h1)
    rw [this]
  · intro h i hi
    have hi' := List.mem_range.1 hi
    have h1 := h (i / 8) (by omega)
    rw [hd_top x n (i / 8) (hx _ (by omega)), hd_top p n (i / 8) (hp _ (by omega))] at h1
    have h2 := Nat.eq_of_mul_eq_mul_right (Nat.pow_pos (by omega)) h1
    have h3 := (top_iff (hp (i / 8) (by omega)) (hx (i / 8) (by omega)) (min 8 (n - 8 * (i / 8))) (by omega)).2 h2.symm (i % 8) (by omega)
    simp only [btN, beq_iff_eq]
    exact h3
theorem vld_vR (V : Int) (x : Nat → Nat) (hx : ∀ i, i < 16 → x i < 256) : vld V x = vR V x := by
  unfold vld vR
  by_cases h4 : V = 4
  · subst h4
    have e : same16 (hdA x 32) x = (List.range 12).all fun i => x (4 + i) == 0 := by
      rw [Bool.eq_iff_iff, same16_iff, List.all_eq_true]
      constructor
      · intro h i hi
        have hi' := List.mem_range.1 hi
        have h1 := h (4 + i) (by omega)
        rw [hd_top x 32 (4 + i) (hx _ (by omega)), show min 8 (32 - 8 * (4 + i)) = 0 by omega] at h1
        have h2 : x (4 + i) / 2 ^ (8 - 0) = 0 := Nat.div_eq_of_lt (by simpa using hx (4 + i) (by omega))
        rw [h2] at h1
        simp at h1
        simp [← h1]
      · intro h j hj
        by_cases h3 : j < 4
        · unfold hdA; rw [if_pos (by omega)]
        · have h1 := h (j - 4) (List.mem_range.2 (by omega))
          rw [show 4 + (j - 4) = j by omega] at h1
          have h2 : x j = 0 := by simpa using h1
          rw [hd_top x 32 j (hx j hj), h2]
          simp
    have e0 : ((4 : Int) == 6) = false := by decide
    have e1 : ((4 : Int) == 4) = true := by decide
    rw [e0, e1, e]
    simp
  · have e1 : (V == 4) = false := by simp [h4]
    rw [e1]
    simp
theorem cn_mt {p : PV} {k : Nat} {V : Int} {x : Nat → Nat} (hx : ∀ i, i < 16 → x i < 256) (hv : vR V x = true) (hp : vpR p = 0) (hV : p.V = vr k) (hn : p.n = (ln k : Nat)) (hl : ln k ≤ 128) (hb : ∀ j, j < 16 → p.x j = nt k j) (h256 : ∀ j, j < 16 → p.x j < 256) (hh : ∀ j, j < 16 → hdA p.x (ln k) j = p.x j) : cnR p V x = mt V x k := by
  unfold cnR mt
  rw [hp, hv, hV, hn]
  have e : ((List.range ((ln k : Nat) : Int).toNat).all fun i => btN p.x i == btN x i) = same16 (hdA x (ln k)) (nt k) := by
    rw [Int.toNat_natCast, Bool.eq_iff_iff, bits_iff hl hx h256, same16_iff]
    constructor
    · intro h j hj
      rw [h j hj, hh j hj, hb j hj]
    · intro h j hj
      rw [h j hj, hh j hj, hb j hj]
  rw [e]
  rfl
def ckM (L : List Nat) (k : Nat) : Bool := decide (ln k ≤ 128) && (List.range 16).all fun j => decide (bt L j = nt k j) && decide (bt L j < 256) && decide (hdA (bt L) (ln k) j = bt L j)
theorem cn_ck {L : List Nat} {n k : Nat} {U : Int} {V : Int} {x : Nat → Nat} (hx : ∀ i, i < 16 → x i < 256) (hv : vR V x = true) (hp : vpR ⟨U, bt L, (n : Nat)⟩ = 0) (hV : U = vr k) (hn : n = ln k) (hc : ckM L k = true) : cnR ⟨U, bt L, (n : Nat)⟩ V x = mt V x k := by
  unfold ckM at hc
  simp only [Bool.and_eq_true, decide_eq_true_eq, List.all_eq_true, List.mem_range] at hc
  exact cn_mt hx hv hp hV (by rw [hn]) hc.1 (fun j hj => (hc.2 j hj).1.1) (fun j hj => (hc.2 j hj).1.2) (fun j hj => (hc.2 j hj).2)
theorem class_alike (V : Int) (x : Nat → Nat) (hx : ∀ i, i < 16 → x i < 256) : clsA V x = (clR V x : Nat) := by
  unfold clsA
  rw [vld_vR V x hx]
  by_cases hv : vR V x = true
  · rw [if_pos hv]
    unfold clR
    rw [cn_ck (k := 0) hx hv tx4_0.vp rfl rfl (by decide +kernel)]
    rw [cn_ck (k := 1) hx hv tx6_0.vp rfl rfl (by decide +kernel)]
    rw [cn_ck (k := 2) hx hv tx4_1.vp rfl rfl (by decide +kernel)]
    rw [cn_ck (k := 3) hx hv tx6_1.vp rfl rfl (by decide +kernel)]
    rw [cn_ck (k := 4) hx hv tx4_2.vp rfl rfl (by decide +kernel)]
    rw [cn_ck (k := 5) hx hv tx6_2.vp rfl rfl (by decide +kernel)]
    rw [cn_ck (k := 6) hx hv tx4_3.vp rfl rfl (by decide +kernel)]
    rw [cn_ck (k := 7) hx hv tx6_3.vp rfl rfl (by decide +kernel)]
    rw [cn_ck (k := 8) hx hv tx4_4.vp rfl rfl (by decide +kernel)]
    rw [cn_ck (k := 9) hx hv tx4_5.vp rfl rfl (by decide +kernel)]
    rw [cn_ck (k := 10) hx hv tx4_6.vp rfl rfl (by decide +kernel)]
    rw [cn_ck (k := 11) hx hv tx6_4.vp rfl rfl (by decide +kernel)]
    rw [hv]
    simp only [clF]
    obtain ⟨m0, h0⟩ : ∃ b, mt V x 0 = b := ⟨_, rfl⟩
    obtain ⟨m1, h1⟩ : ∃ b, mt V x 1 = b := ⟨_, rfl⟩
    obtain ⟨m2, h2⟩ : ∃ b, mt V x 2 = b := ⟨_, rfl⟩
    obtain ⟨m3, h3⟩ : ∃ b, mt V x 3 = b := ⟨_, rfl⟩
    obtain ⟨m4, h4⟩ : ∃ b, mt V x 4 = b := ⟨_, rfl⟩
    obtain ⟨m5, h5⟩ : ∃ b, mt V x 5 = b := ⟨_, rfl⟩
    obtain ⟨m6, h6⟩ : ∃ b, mt V x 6 = b := ⟨_, rfl⟩
    obtain ⟨m7, h7⟩ : ∃ b, mt V x 7 = b := ⟨_, rfl⟩
    obtain ⟨m8, h8⟩ : ∃ b, mt V x 8 = b := ⟨_, rfl⟩
    obtain ⟨m9, h9⟩ : ∃ b, mt V x 9 = b := ⟨_, rfl⟩
    obtain ⟨m10, h10⟩ : ∃ b, mt V x 10 = b := ⟨_, rfl⟩
    obtain ⟨m11, h11⟩ : ∃ b, mt V x 11 = b := ⟨_, rfl⟩
    rw [h0, h1, h2, h3, h4, h5, h6, h7, h8, h9, h10, h11]
    clear h0 h1 h2 h3 h4 h5 h6 h7 h8 h9 h10 h11
    revert m0 m1 m2 m3 m4 m5 m6 m7 m8 m9 m10 m11
    decide +kernel
  · rw [if_neg hv]
    unfold clR
    have hv' : vR V x = false := by simpa using hv
    rw [hv']
    rfl
theorem cf_alike {c : CF} (ho : ∀ i, i < 16 → c.o i < 256) (h : cfR c = true) : cfB c = true := by
  have e := class_alike c.oV c.o ho
  unfold cfR at h
  unfold cfB agB
  rw [e]
  simp only [Bool.and_eq_true, Bool.or_eq_true, Bool.not_eq_true', decide_eq_false_iff_not, decide_eq_true_eq, beq_iff_eq, inR_iff] at h ⊢
  omega
end Go.Proofs.YtclpeepnngegaaaDoor
namespace Go.Proofs.YtclpeepnngegaaaDoor
open Go.RowKit Go.Maps

theorem cfg_rng {w : World} {O : Nat} {c : CF} (h : CfgAt w O c) : w.rangeAt O 0 (cfC c).toList := by
  intro j v hj
  rw [h.cell, Nat.zero_add, ← Array.getElem?_toList]
  exact hj
theorem results_pcf {fn : Func} {p u : Tmp} (h : fn.results = #[.tmp u, .cell p 26]) (tmps : Array Value) (w : World) (O : Nat) (c : CF) (hp : tmps.getD p undef = .pointer (some ⟨O, 0, none⟩)) (hb : CfgAt w O c) :
    (results fn tmps).run Tryd.prog w = .ok (.tuple #[tmps.getD u undef, .agg (cfC c)]) w := by
  have hp' : tmps[p]?.getD undef = .pointer (some ⟨O, 0, none⟩) := by simpa using hp
  simp [results, h, hp', asAddr, run_loadVar_row w O _ 26 (cfC c) _ _ hb Tryd.underlying26 rfl Tryd.size_cfg]
theorem FT.chO {W : World} {t M N : Nat} {c : CF} {E : List FV} {w w' : World} (h : FT W t M N c E w) {O : Nat} (k : Ch (fun q => q = O) w w') (hO : W.heap.size ≤ O) (hq : ∀ q, TB t M N E q → q ≠ O) : FT W t M N c E w' := { h with ta := h.ta.ch k (fun q h1 h2 => hq q h1 h2), bel := h.bel.trans (k.below (fun x hx => by omega) h.bel.size) }
set_option maxHeartbeats 1600000 in
set_option maxRecDepth 100000 in
theorem table_cf (c : CF) (w W0 : World) (ho : ∀ i, i < 16 → c.o i < 256) (g : Gl W0) (bl : Below W0.heap.size W0 w) : Calls Tryd.prog 8 #[.agg (cfC c)] w fun r w' => ∃ t M N cc, r = .returned (.tuple #[.pointer (some ⟨t, 0, none⟩), .agg (cfC cc)]) ∧ FT W0 t M N cc [] w' ∧ Below w.heap.size w w' ∧ cfB cc = true := by
  have HG : Hid ((∀ i, i < 16 → c.o i < 256) ∧ Gl W0 ∧ Below W0.heap.size W0 w) := ⟨ho, g, bl⟩
  clear ho g bl
  have hb := cfg_new w c
  have bel : Below w.heap.size w (w.alloc (.cells (cfC c) 26)) := (Below.refl _ _).alloc (Nat.le_refl _) _
  obtain ⟨CX, hC⟩ : ∃ C, C = cfC c := ⟨_, rfl⟩
  obtain ⟨W, hW⟩ : ∃ W_, W_ = w.alloc (.cells (cfC c) 26) := ⟨_, rfl⟩
  rw [← hW] at hb bel
  have HSZX : Hid (W.heap.size = w.heap.size + 1) := by show _ = _; rw [hW, World.size_alloc]
  obtain ⟨B, hB⟩ : ∃ B, B = w.heap.size := ⟨_, rfl⟩
  rw [← hB] at hb
  have HBX : Hid (CfgAt W B c) := hb
  rw [← hC] at hW ⊢
  have HOX : Hid (w.heap.size = B) := hB.symm
  have HLX : Hid (Below w.heap.size w W) := bel
  have HWX : Hid (w.alloc (.cells CX 26) = W) := hW.symm
  clear hb hW hB hC bel
  obtain ⟨Y, hY⟩ : ∃ Y, Y = W.alloc (.cells (cfC cz) 26) := ⟨_, rfl⟩
  have bY : Below W.heap.size W Y := by rw [hY]; exact (Below.refl _ _).alloc (Nat.le_refl _) _
  obtain ⟨O, hO⟩ : ∃ O, O = W.heap.size := ⟨_, rfl⟩
  have HNY : Hid (CfgAt Y O cz) := by show CfgAt Y O cz; rw [hY, hO]; exact cfg_new W cz
  have HLY : Hid (Below W.heap.size W Y) := bY
  have HEY : Hid (W.alloc (.cells (cfC cz) 26) = Y) := hY.symm
  have HOY : Hid (W.heap.size = O) := hO.symm
  clear hY bY hO
  have H0 : Hid (CfgAt Y B c ∧ CfgAt Y O cz ∧ Below w.heap.size w Y) := ⟨HBX.out.below HLY.out, HNY.out, bthen HLX.out HLY.out⟩
  have HBO : Hid (B < O ∧ w.heap.size = B) := by have h1 := HOY.out; have h2 := HSZX.out; have h3 := HOX.out; show B < O ∧ w.heap.size = B; omega
  go_enter Tryd.func8, Tryd.ntmps8
  go_wp2_with (first | (rw [HOX.out, HWX.out]) | (refine wpList_alloc_cfg rfl rfl ?_; rw [HEY.out, HOY.out]) | (refine wpList_load_cfg (.tmp 1) rfl B c rfl H0.out.1 rfl ?_))
  refine (newR_any c Y HG.out.1).mono ?_
  rintro e1 w1 ⟨rfl, b1⟩
  obtain ⟨q, hq⟩ : ∃ q, (if cfR c = true then c else cz) = q := ⟨_, rfl⟩
  rw [hq]
  clear hq
  obtain ⟨b, hb⟩ : ∃ b, cfR c = b := ⟨_, rfl⟩
  have HB : Hid (cfR c = b) := hb
  clear hb
  have H1 : Hid (CfgAt w1 B c ∧ CfgAt w1 O cz ∧ Below w.heap.size w w1) := ⟨H0.out.1.below b1, H0.out.2.1.below b1, bthen H0.out.2.2 b1⟩
  clear b1
  obtain ⟨nn, hnn⟩ : ∃ nn, nwE c = nn := ⟨_, rfl⟩
  have HNN : Hid (nwE c = nn) := hnn
  rw [hnn]
  clear hnn
  obtain ⟨w2, hw2⟩ : ∃ w2, w2 = w1.alloc (.cells (rtC cz) 59) := ⟨_, rfl⟩
  have l2 : Below w1.heap.size w1 w2 := by rw [hw2]; exact (Below.refl _ _).alloc (Nat.le_refl _) _
  have a2 := rtb_new w1 cz
  rw [← hw2] at a2
  obtain ⟨D, hD⟩ : ∃ D, w1.heap.size = D := ⟨_, rfl⟩
  rw [hD] at a2
  have HOD : Hid (w1.heap.size = D) := hD
  have HW2 : Hid (w1.alloc (.cells (rtC cz) 59) = w2) := hw2.symm
  have H2 : Hid (CfgAt w2 B c ∧ CfgAt w2 O cz ∧ RtbAt w2 D cz ∧ Below w.heap.size w w2 ∧ O < D) := ⟨H1.out.1.below l2, H1.out.2.1.below l2, a2, bthen H1.out.2.2 l2, by rw [← hD]; exact H1.out.2.1.lt⟩
  clear hw2 l2 a2 hD
  go_wp2_with (first | (refine wpList_alloc_rtb rfl rfl ?_; rw [HW2.out, HOD.out]) | (refine wpList_store_rtb (.tmp 4) (.tmp 11) rfl rfl D cz q rfl rfl H2.out.2.2.1 rfl ?_))
  intro w3 h3 k3
  have H3 : Hid (CfgAt w3 B c ∧ CfgAt w3 O cz ∧ Below w.heap.size w w3) := by
    have h1 := H2.out.2.2.2.2
    have h2 := HBO.out
    exact ⟨H2.out.1.ch k3 (by omega), H2.out.2.1.ch k3 (by omega), H2.out.2.2.2.1.trans (k3.below (fun q hq => by omega) H2.out.2.2.2.1.size)⟩
  clear h3 k3
  cases b with
  | true =>
    obtain rfl : nn = 0 := by have h1 := HNN.out; unfold nwE at h1; rw [HB.out] at h1; exact h1.symm
    have HC : Hid (cfB c = true ∧ ∀ i, i < 16 → c.o i < 256) := ⟨cf_alike HG.out.1 HB.out, HG.out.1⟩
    obtain ⟨w4, hw4⟩ : ∃ w4, w4 = w3 := ⟨_, rfl⟩
    obtain ⟨cc, hcc⟩ : ∃ cc, cc = c := ⟨_, rfl⟩
    have H4 : Hid (CfgAt w4 B cc ∧ CfgAt w4 O cz ∧ Below w.heap.size w w4 ∧ cfB cc = true ∧ ∀ i, i < 16 → cc.o i < 256) := by rw [hw4, hcc]; exact ⟨H3.out.1, H3.out.2.1, H3.out.2.2, HC.out.1, HC.out.2⟩
    rw [← hw4]
    clear hw4 hcc H3
    go_wp2_with (first | (refine wpList_load_cfg (.tmp 1) rfl B cc rfl H4.out.1 rfl ?_))
    refine (ft_new cc w4 w4 H4.out.2.2.2.2 H4.out.2.2.2.1 (HG.out.2.1.old (bthen HG.out.2.2 H4.out.2.2.1)) (Below.refl _ _)).mono ?_
    rintro e1 w6 ⟨t, M, N, rfl, hF, b6⟩
    have HZ0 : Hid (W0.heap.size ≤ w.heap.size ∧ w.heap.size ≤ w4.heap.size) := ⟨HG.out.2.2.size, H4.out.2.2.1.size⟩
    have H6 : Hid (CfgAt w6 B cc ∧ CfgAt w6 O cz ∧ FT W0 t M N cc [] w6) := ⟨H4.out.1.below b6, H4.out.2.1.below b6, { hF with bel := bthen (bthen HG.out.2.2 H4.out.2.2.1) b6, far := fun q hq => by have h1 := hF.far q hq; have h2 := HZ0.out; omega }⟩
    have HFAR : Hid (∀ q, TB t M N [] q → w4.heap.size ≤ q) := hF.far
    have HB6 : Hid (Below w.heap.size w w6) := bthen H4.out.2.2.1 b6
    have HCFB : Hid (cfB cc = true) := H4.out.2.2.2.1
    clear hF b6
    go_upto_region 5 with fail
    refine MixH.start (fun A => CfgAt A B cc ∧ FT W0 t M N cc [] A) (by kernel_rfl) ?_
    obtain ⟨wA, hwA⟩ : ∃ wA, wA = w6.drew := ⟨_, rfl⟩
    have bdr : Below w6.heap.size w6 wA := by rw [hwA]; exact (Below.refl _ _).drew
    have hS : CfgAt wA B cc ∧ FT W0 t M N cc [] wA := ⟨H6.out.1.below bdr, H6.out.2.2.below bdr⟩
    have HBA : Hid (Below w.heap.size w wA) := bthen HB6.out bdr
    have HOA : Hid (CfgAt wA O cz) := H6.out.2.1.below bdr
    rw [← hwA]
    clear hwA bdr
    refine MixH.takes [true, false, true] 2 (by kernel_rfl) (by kernel_rfl) (by decide) (by kernel_rfl) hS (fun K hK => ?_)
    simp only [Mix.pick]
    repeat (go_big_quiet_step (fail))
    refine wpQuiet_nil (hK _ ?_)
    clear hK K
    refine MixH.take 1 1 _ (.agg (cfC cc)) rfl (by kernel_rfl) (by kernel_rfl) (by kernel_rfl) (by kernel_rfl) (yields_cfg (.tmp 1) rfl B 0 cc rfl rfl (fun A hA => cfg_rng hA.1)) hS (fun a' ha => ?_)
    simp only [Act.put, List.setIfInBounds_toArray, List.set_cons_succ, List.set_cons_zero] at ha
    subst ha
    refine MixH.one [false, false, false, true] 0 3 _ rfl rfl (by kernel_rfl) (by kernel_rfl) (fun K hK => ?_)
    simp only [Mix.pick]
    refine wpList_store_cfg (.tmp 3) (.tmp 22) rfl rfl O cz cc rfl rfl HOA.out rfl ?_
    intro w7 h7 k7
    have HO7 : Hid (CfgAt w7 O cc) := h7
    have HOW : Hid (B < O ∧ O < w4.heap.size) := ⟨HBO.out.1, H4.out.2.1.lt⟩
    replace hS : CfgAt w7 B cc ∧ FT W0 t M N cc [] w7 := ⟨hS.1.ch k7 (by have := HOW.out; omega), hS.2.chO k7 (by have h1 := HOW.out; have h2 := HZ0.out; have h3 := HBO.out; omega) (fun q hq e => by have h1 := HFAR.out q hq; have h2 := HOW.out; omega)⟩
    have HB7 : Hid (Below w.heap.size w w7) := HBA.out.trans (k7.below (fun x hx => by have h3 := HBO.out; omega) HBA.out.size)
    clear h7 k7
    go_wp2_with fail
    refine ⟨rfl, hK _ _ hS ?_⟩
    clear hK K
    refine MixH.done (by kernel_rfl) ?_
    have H7 : Hid (FT W0 t M N cc [] w7) := hS.2
    clear hS
    go_wp2_with fail
    refine bodyPost_ret (results_pcf rfl _ _ O _ rfl HO7.out) rfl ?_
    exact ⟨t, M, N, cc, rfl, H7.out, HB7.out, HCFB.out⟩
  | false =>
    obtain rfl : nn = 177 := by have h1 := HNN.out; rw [nwE_no HB.out] at h1; exact h1.symm
    go_wp2_with fail
    refine (config0_any w3).mono ?_
    rintro e1 w5 ⟨rfl, b5⟩
    have H5 : Hid (CfgAt w5 B c ∧ CfgAt w5 O cz ∧ Below w.heap.size w w5) := ⟨H3.out.1.below b5, H3.out.2.1.below b5, bthen H3.out.2.2 b5⟩
    clear b5
    obtain ⟨cc, hcc⟩ : ∃ cc, cc = cf0 := ⟨_, rfl⟩
    have HCC : Hid (cc = cf0) := hcc
    rw [← hcc]
    clear hcc
    go_wp2_with (first | (refine wpList_store_cfg (.tmp 1) (.tmp 15) rfl rfl B c cc rfl rfl H5.out.1 rfl ?_))
    intro w4 h4 k4
    have H4 : Hid (CfgAt w4 B cc ∧ CfgAt w4 O cz ∧ Below w.heap.size w w4 ∧ cfB cc = true ∧ ∀ i, i < 16 → cc.o i < 256) := by
      have h2 := HBO.out
      exact ⟨h4, H5.out.2.1.ch k4 (by omega), H5.out.2.2.trans (k4.below (fun q hq => by omega) H5.out.2.2.size), by rw [HCC.out]; exact cf0_b, by rw [HCC.out]; exact cf0_o⟩
    clear h4 k4
    go_wp2_with (first | (refine wpList_load_cfg (.tmp 1) rfl B cc rfl H4.out.1 rfl ?_))
    refine (ft_new cc w4 w4 H4.out.2.2.2.2 H4.out.2.2.2.1 (HG.out.2.1.old (bthen HG.out.2.2 H4.out.2.2.1)) (Below.refl _ _)).mono ?_
    rintro e1 w6 ⟨t, M, N, rfl, hF, b6⟩
    have HZ0 : Hid (W0.heap.size ≤ w.heap.size ∧ w.heap.size ≤ w4.heap.size) := ⟨HG.out.2.2.size, H4.out.2.2.1.size⟩
    have H6 : Hid (CfgAt w6 B cc ∧ CfgAt w6 O cz ∧ FT W0 t M N cc [] w6) := ⟨H4.out.1.below b6, H4.out.2.1.below b6, { hF with bel := bthen (bthen HG.out.2.2 H4.out.2.2.1) b6, far := fun q hq => by have h1 := hF.far q hq; have h2 := HZ0.out; omega }⟩
    have HFAR : Hid (∀ q, TB t M N [] q → w4.heap.size ≤ q) := hF.far
    have HB6 : Hid (Below w.heap.size w w6) := bthen H4.out.2.2.1 b6
    have HCFB : Hid (cfB cc = true) := H4.out.2.2.2.1
    clear hF b6
    go_upto_region 5 with fail
    refine MixH.start (fun A => CfgAt A B cc ∧ FT W0 t M N cc [] A) (by kernel_rfl) ?_
    obtain ⟨wA, hwA⟩ : ∃ wA, wA = w6.drew := ⟨_, rfl⟩
    have bdr : Below w6.heap.size w6 wA := by rw [hwA]; exact (Below.refl _ _).drew
    have hS : CfgAt wA B cc ∧ FT W0 t M N cc [] wA := ⟨H6.out.1.below bdr, H6.out.2.2.below bdr⟩
    have HBA : Hid (Below w.heap.size w wA) := bthen HB6.out bdr
    have HOA : Hid (CfgAt wA O cz) := H6.out.2.1.below bdr
    rw [← hwA]
    clear hwA bdr
    refine MixH.takes [true, false, true] 2 (by kernel_rfl) (by kernel_rfl) (by decide) (by kernel_rfl) hS (fun K hK => ?_)
    simp only [Mix.pick]
    repeat (go_big_quiet_step (fail))
    refine wpQuiet_nil (hK _ ?_)
    clear hK K
    refine MixH.take 1 1 _ (.agg (cfC cc)) rfl (by kernel_rfl) (by kernel_rfl) (by kernel_rfl) (by kernel_rfl) (yields_cfg (.tmp 1) rfl B 0 cc rfl rfl (fun A hA => cfg_rng hA.1)) hS (fun a' ha => ?_)
    simp only [Act.put, List.setIfInBounds_toArray, List.set_cons_succ, List.set_cons_zero] at ha
    subst ha
    refine MixH.one [false, false, false, true] 0 3 _ rfl rfl (by kernel_rfl) (by kernel_rfl) (fun K hK => ?_)
    simp only [Mix.pick]
    refine wpList_store_cfg (.tmp 3) (.tmp 22) rfl rfl O cz cc rfl rfl HOA.out rfl ?_
    intro w7 h7 k7
    have HO7 : Hid (CfgAt w7 O cc) := h7
    have HOW : Hid (B < O ∧ O < w4.heap.size) := ⟨HBO.out.1, H4.out.2.1.lt⟩
    replace hS : CfgAt w7 B cc ∧ FT W0 t M N cc [] w7 := ⟨hS.1.ch k7 (by have := HOW.out; omega), hS.2.chO k7 (by have h1 := HOW.out; have h2 := HZ0.out; have h3 := HBO.out; omega) (fun q hq e => by have h1 := HFAR.out q hq; have h2 := HOW.out; omega)⟩
    have HB7 : Hid (Below w.heap.size w w7) := HBA.out.trans (k7.below (fun x hx => by have h3 := HBO.out; omega) HBA.out.size)
    clear h7 k7
    go_wp2_with fail
    refine ⟨rfl, hK _ _ hS ?_⟩
    clear hK K
    refine MixH.done (by kernel_rfl) ?_
    have H7 : Hid (FT W0 t M N cc [] w7) := hS.2
    clear hS
    go_wp2_with fail
    refine bodyPost_ret (results_pcf rfl _ _ O _ rfl HO7.out) rfl ?_
    exact ⟨t, M, N, cc, rfl, H7.out, HB7.out, HCFB.out⟩
theorem table_any (c : CF) (w W0 : World) (ho : ∀ i, i < 16 → c.o i < 256) (g : Gl W0) (bl : Below W0.heap.size W0 w) : Calls Tryd.prog 8 #[.agg (cfC c)] w fun r w' => ∃ t M N cc, r = .returned (.tuple #[.pointer (some ⟨t, 0, none⟩), .agg (cfC cc)]) ∧ FT W0 t M N cc [] w' ∧ Below w.heap.size w w' := by
  refine (table_cf c w W0 ho g bl).mono ?_
  rintro r w' ⟨t, M, N, cc, rfl, h1, h2, _⟩
  exact ⟨t, M, N, cc, rfl, h1, h2⟩
end Go.Proofs.YtclpeepnngegaaaDoor
namespace Go.Proofs.YtclpeepnngegaaaDoor
open Go.RowKit Go.Maps

/-- what lies in no block of the table's kinds is none of its blocks -/
theorem TA.nb {w : World} {t M N : Nat} {c : CF} {E : List FV} (h : TA w t M N c E) {q : Nat} {cc : Array Value} {ty : TypeId} (hc : w.heap[q]? = some (.cells cc ty (0, 0))) (h1 : ty ≠ 65) (h2 : ty ≠ 55) : ¬ TB t M N E q := by
  rintro (e | e | e | ⟨a, ha, e⟩)
  · have h3 := h.cb
    unfold TblAt at h3
    rw [e, h3] at hc
    simp only [Option.some.injEq, Obj.cells.injEq] at hc
    exact h1 hc.2.1.symm
  · obtain ⟨D, hD⟩ := h.ma
    obtain ⟨es, ck, hb⟩ := hD.blk
    rw [e, hb] at hc
    cases hc
  · obtain ⟨D, hD⟩ := h.mb
    obtain ⟨es, ck, hb⟩ := hD.blk
    rw [e, hb] at hc
    cases hc
  · have h3 := h.en a ha
    unfold FloAt at h3
    rw [e, h3] at hc
    simp only [Option.some.injEq, Obj.cells.injEq] at hc
    exact h2 hc.2.1.symm
theorem TupAt.tb {w w' : World} {O : Nat} {x : TU} {t M N : Nat} {c : CF} {E : List FV} (h : TupAt w O x) (ha : TA w t M N c E) (k : Ch (TB t M N E) w w') : TupAt w' O x := h.ch k (ha.nb h (by decide) (by decide))
theorem StpAt.tb {w w' : World} {O : Nat} {x : SV} {t M N : Nat} {c : CF} {E : List FV} (h : StpAt w O x) (ha : TA w t M N c E) (k : Ch (TB t M N E) w w') : StpAt w' O x := h.ch k (ha.nb h (by decide) (by decide))
theorem i64_k (x : Int) (h0 : -1000000000000000000 ≤ x) (h1 : x ≤ 1000000000000000000) : IntKind.i64.wrap x = x := by rw [IntKind.wrap_i64]; omega
/-- so many ticks -/
def tkn : Nat → List FV → List FV
  | 0, E => E
  | k + 1, E => (tkn k E).filterMap tk1
/-- boxes stand that are not of the table's kinds -/
structure Kt (w w' : World) : Prop where
  size : w.heap.size ≤ w'.heap.size
  blk : ∀ (q : Nat) (cc : Array Value) (ty : TypeId), w.heap[q]? = some (.cells cc ty (0, 0)) → ty ≠ 65 → ty ≠ 55 → w'.heap[q]? = some (.cells cc ty (0, 0))
theorem Kt.ofBelow {a b : World} (h : Below a.heap.size a b) : Kt a b := ⟨h.size, fun q _ _ hq _ _ => (h.block q (Array.getElem?_eq_some_iff.1 hq).1).trans hq⟩
theorem Kt.trans {a b c : World} (h : Kt a b) (k : Kt b c) : Kt a c := ⟨Nat.le_trans h.size k.size, fun q cc ty hq h1 h2 => k.blk q cc ty (h.blk q cc ty hq h1 h2) h1 h2⟩
theorem Kt.below {a b c : World} (h : Kt a b) (k : Below b.heap.size b c) : Kt a c := h.trans (Kt.ofBelow k)
theorem Kt.tb {a b c : World} {t M N : Nat} {cf : CF} {E : List FV} (h : Kt a b) (ha : TA b t M N cf E) (k : Ch (TB t M N E) b c) : Kt a c := h.trans ⟨k.size, fun q _ _ hq h1 h2 => (k.block q (Array.getElem?_eq_some_iff.1 hq).1 (ha.nb hq h1 h2)).trans hq⟩
theorem Kt.set {a b c : World} {O : Nat} (h : Kt a b) (k : Ch (fun q => q = O) b c) (hO : a.heap.size ≤ O) : Kt a c := ⟨Nat.le_trans h.size k.size, fun q cc ty hq h1 h2 => (k.block q (Array.getElem?_eq_some_iff.1 (h.blk q cc ty hq h1 h2)).1 (fun e => by
  have := (Array.getElem?_eq_some_iff.1 hq).1
  have e' : q = O := e
  omega)).trans (h.blk q cc ty hq h1 h2)⟩
theorem TupAt.kt {w w' : World} {O : Nat} {x : TU} (h : TupAt w O x) (k : Kt w w') : TupAt w' O x := k.blk O _ _ h (by decide) (by decide)
/-- what a step does -/
def RunR (c : CF) (E : List FV) (s : SV) (E' : List FV) : Prop := (∃ B er y, OutR c E s.x s.fl B er y E') ∨ (∃ x er y, InR c E x s.fl er y E') ∨ ∃ k, E' = tkn k E
theorem ouT_wf {c : CF} (hc : CfOk c) {f : FN} (h : f.x.Wf) (hp : (Lit.int .i64 f.po).wf = true) : (ouT c f).Wf := by
  unfold ouT
  split
  · refine ⟨h.pr, ?_, hc.o, h.dV, h.d, hp, h.dp⟩
    show (Lit.int .i64 c.oV).wf = true
    rw [hc.oV]
    rfl
  · exact h
theorem xz_wf : xz.Wf := ⟨rfl, rfl, fun _ _ => (by show (0 : Nat) < 256; decide), rfl, fun _ _ => (by show (0 : Nat) < 256; decide), rfl, rfl⟩
theorem FT.po {W : World} {t M N : Nat} {c : CF} {E : List FV} {w : World} (h : FT W t M N c E w) {e : FV} (he : e ∈ E) : (ouT c e.n).Wf := by
  unfold ouT
  split
  · rename_i h4
    have hx := h.ta.wf e he
    have hq := h.ta.wfq e he h4
    refine ⟨hx.pr, ?_, h.ok.o, hx.dV, hx.d, hq.po, hx.dp⟩
    show (Lit.int .i64 c.oV).wf = true
    rw [h.ok.oV]
    rfl
  · exact h.ta.wf e he
/-- what Out answers is a tuple -/
theorem out_wf {W : World} {t M N : Nat} {c : CF} {E E' : List FV} {w w' : World} {x y : TU} {fl er : Int} {B : Nat} (h : FT W t M N c E w) (hR : OutR c E x fl B er y E') (h' : FT W t M N c E' w') : y.Wf := by
  rcases hR with ⟨_, _, rfl, _⟩ | ⟨_, e, hf, ⟨_, _, rfl, _⟩ | ⟨_, _, rfl, _⟩⟩ | ⟨_, _, ⟨_, _, rfl, _⟩ | ⟨_, _, _, rfl, _⟩ | ⟨_, _, _, po, P, _, _, rfl, rfl⟩⟩
  · exact xz_wf
  · exact xz_wf
  · exact h.po (fF_some hf).1
  · exact xz_wf
  · exact xz_wf
  · have h1 := h'.po (List.mem_append_right E (List.mem_singleton_self _))
    have h2 : ouT c ⟨x, po, 0, 0⟩ = _ := ouT_same c (g := (FV.mk ⟨x, po, oT 0 (sgN x.pr fl), tkN c x.pr (oT 0 (sgN x.pr fl))⟩ P).n) rfl rfl
    rw [h2]
    exact h1
set_option maxHeartbeats 1600000 in
set_option maxRecDepth 100000 in
theorem runs_any (t M N : Nat) (c : CF) (E : List FV) (W w : World) (h : FT W t M N c E w) (g : Gl W) (s : SV) (hs : s.Wf) (last : TU) (hl : last.Wf) : Calls Tryd.prog 14 #[.pointer (some ⟨t, 0, none⟩), .agg (stC s), .agg (tuC last)] w fun r w' => ∃ y b E', r = .returned (.tuple #[.agg (tuC y), .bool b]) ∧ RunR c E s E' ∧ (s.kd = 4 → (∃ k, E' = tkn k E) ∧ y = last) ∧ FT W t M N c E' w' ∧ y.Wf ∧ Kt w w' := by
  have HG : Hid (FT W t M N c E w ∧ Gl W ∧ s.Wf ∧ last.Wf) := ⟨h, g, hs, hl⟩
  clear h g hs hl
  have hb := stp_new w s
  have bel : Below w.heap.size w (w.alloc (.cells (stC s) 36)) := (Below.refl _ _).alloc (Nat.le_refl _) _
  obtain ⟨CX, hC⟩ : ∃ C, C = stC s := ⟨_, rfl⟩
  obtain ⟨Wb, hW⟩ : ∃ W_, W_ = w.alloc (.cells (stC s) 36) := ⟨_, rfl⟩
  rw [← hW] at hb bel
  have HSZX : Hid (Wb.heap.size = w.heap.size + 1) := by show _ = _; rw [hW, World.size_alloc]
  obtain ⟨B, hB⟩ : ∃ B, B = w.heap.size := ⟨_, rfl⟩
  rw [← hB] at hb
  have HBX : Hid (StpAt Wb B s) := hb
  rw [← hC] at hW ⊢
  have HOX : Hid (w.heap.size = B) := hB.symm
  have HLX : Hid (Below w.heap.size w Wb) := bel
  have HWX : Hid (w.alloc (.cells CX 36) = Wb) := hW.symm
  clear hb hW hB hC bel
  have hb := tup_new Wb last
  have bel : Below Wb.heap.size Wb (Wb.alloc (.cells (tuC last) 34)) := (Below.refl _ _).alloc (Nat.le_refl _) _
  obtain ⟨CZ, hC⟩ : ∃ C, C = tuC last := ⟨_, rfl⟩
  obtain ⟨Wd, hW⟩ : ∃ W_, W_ = Wb.alloc (.cells (tuC last) 34) := ⟨_, rfl⟩
  rw [← hW] at hb bel
  have HSZZ : Hid (Wd.heap.size = Wb.heap.size + 1) := by show _ = _; rw [hW, World.size_alloc]
  obtain ⟨D, hB⟩ : ∃ B, B = Wb.heap.size := ⟨_, rfl⟩
  rw [← hB] at hb
  have HBZ : Hid (TupAt Wd D last) := hb
  rw [← hC] at hW ⊢
  have HOZ : Hid (Wb.heap.size = D) := hB.symm
  have HLZ : Hid (Below Wb.heap.size Wb Wd) := bel
  have HWZ : Hid (Wb.alloc (.cells CZ 34) = Wd) := hW.symm
  clear hb hW hB hC bel
  obtain ⟨Y, hY⟩ : ∃ Y, Y = Wd.alloc (.cells (tuC xz) 34) := ⟨_, rfl⟩
  have bY : Below Wd.heap.size Wd Y := by rw [hY]; exact (Below.refl _ _).alloc (Nat.le_refl _) _
  obtain ⟨O, hO⟩ : ∃ O, O = Wd.heap.size := ⟨_, rfl⟩
  have HNY : Hid (TupAt Y O xz) := by show TupAt Y O xz; rw [hY, hO]; exact tup_new Wd xz
  have HLY : Hid (Below Wd.heap.size Wd Y) := bY
  have HEY : Hid (Wd.alloc (.cells (tuC xz) 34) = Y) := hY.symm
  have HOY : Hid (Wd.heap.size = O) := hO.symm
  clear hY bY hO
  have H0 : Hid (StpAt Y B s ∧ TupAt Y D last ∧ TupAt Y O xz ∧ FT W t M N c E Y) := by
    have b1 := bthen HLX.out HLZ.out
    have b2 := bthen b1 HLY.out
    exact ⟨(HBX.out.below HLZ.out).below HLY.out, HBZ.out.below HLY.out, HNY.out, HG.out.1.below b2⟩
  have KH0 : Hid (Kt w Y) := Kt.ofBelow (bthen (bthen HLX.out HLZ.out) HLY.out)
  have HBO : Hid (B < D ∧ D < O ∧ w.heap.size = B) := by have h1 := HOX.out; have h2 := HSZX.out; have h3 := HOZ.out; have h4 := HSZZ.out; have h5 := HOY.out; show B < D ∧ D < O ∧ w.heap.size = B; omega
  go_enter Tryd.func14, Tryd.ntmps14
  have hlen : (stC s).size = 41 := rfl
  have c0 : Y.cell? ⟨B, 0, none⟩ = some (.int .i64 s.kd) := H0.out.1.cell 0
  have c39 : Y.cell? ⟨B, 39, none⟩ = some (.int .i64 s.fl) := H0.out.1.cell 39
  obtain ⟨kd, hkd⟩ : ∃ k, s.kd = k := ⟨_, rfl⟩
  obtain ⟨fl, hfl⟩ : ∃ k, s.fl = k := ⟨_, rfl⟩
  rw [hkd] at c0 ⊢
  rw [hfl] at c39
  have HKD : Hid (s.kd = kd ∧ s.fl = fl) := ⟨hkd, hfl⟩
  clear hkd hfl hlen
  go_upto_region 2 with (first | (rw [HOX.out, HWX.out]) | (rw [HOZ.out, HWZ.out]) | (refine wpList_alloc_tup rfl rfl ?_; rw [HEY.out, HOY.out]))
  by_cases h1 : kd = 1
  · have q1 : (kd == 1) = true := by simpa using h1
    have QO : Hid _ := H0.out.2.2.2.out HG.out.2.1 s.x HG.out.2.2.1.x fl
    go_wp2_with (first | (refine wpList_mid_tup (.tmp 17) rfl B 2 s.x rfl H0.out.1.x rfl ?_))
    refine Calls.mono QO.out ?_
    rintro e1 w1 ⟨er, y, E', rfl, hR, hF, k1⟩
    have KH1 : Hid (Kt w w1) := KH0.out.tb H0.out.2.2.2.ta k1
    have H1 : Hid (StpAt w1 B s ∧ TupAt w1 D last ∧ TupAt w1 O xz ∧ FT W t M N c E' w1) := ⟨H0.out.1.tb H0.out.2.2.2.ta k1, H0.out.2.1.tb H0.out.2.2.2.ta k1, H0.out.2.2.1.tb H0.out.2.2.2.ta k1, hF⟩
    have HR : Hid (OutR c E s.x s.fl Y.heap.size er y E' ∧ y.Wf) := by
      refine ⟨by rw [HKD.out.2]; exact hR, out_wf H0.out.2.2.2 hR hF⟩
    clear hR hF k1 QO c0 c39 H0
    obtain ⟨Y3, hY⟩ : ∃ Y, Y = w1.alloc (.cells (tuC xz) 34) := ⟨_, rfl⟩
    have bY : Below w1.heap.size w1 Y3 := by rw [hY]; exact (Below.refl _ _).alloc (Nat.le_refl _) _
    obtain ⟨O3, hO⟩ : ∃ O, O = w1.heap.size := ⟨_, rfl⟩
    have HNV : Hid (TupAt Y3 O3 xz) := by show TupAt Y3 O3 xz; rw [hY, hO]; exact tup_new w1 xz
    have HLV : Hid (Below w1.heap.size w1 Y3) := bY
    have HEV : Hid (w1.alloc (.cells (tuC xz) 34) = Y3) := hY.symm
    have HOV : Hid (w1.heap.size = O3) := hO.symm
    clear hY bY hO
    have H2 : Hid (TupAt Y3 D last ∧ TupAt Y3 O xz ∧ TupAt Y3 O3 xz ∧ FT W t M N c E' Y3 ∧ O < O3 ∧ D < O3) := ⟨H1.out.2.1.below HLV.out, H1.out.2.2.1.below HLV.out, HNV.out, H1.out.2.2.2.below HLV.out, by have h1 := H1.out.2.2.1.lt; have h2 := HOV.out; omega, by have h1 := H1.out.2.1.lt; have h2 := HOV.out; omega⟩
    have q2 : ((1 : Int) == 1) = true := rfl
    go_wp2_with (first | (refine wpList_alloc_tup rfl rfl ?_; rw [HEV.out, HOV.out]) | (refine wpList_store_tup (.tmp 8) (.tmp 22) rfl rfl O3 xz y rfl rfl H2.out.2.2.1 rfl ?_))
    intro w3 h3 k3
    have hW3 : W.heap.size ≤ O3 := by have h1 := HG.out.1.bel.size; have h2 := HBO.out; have h4 := H2.out.2.2.2.2.1; omega
    have H3 : Hid (StpAt w3 B s ∧ TupAt w3 D last ∧ TupAt w3 O xz ∧ FT W t M N c E' w3 ∧ TupAt w3 O3 y) := ⟨(H1.out.1.below HLV.out).ch k3 (by have h1 := HBO.out; have h2 := H2.out.2.2.2.2.1; omega), H2.out.1.ch k3 (by have := H2.out.2.2.2.2.2; omega), H2.out.2.1.ch k3 (by have := H2.out.2.2.2.2.1; omega), H2.out.2.2.2.1.chO k3 hW3 (fun q hq e => H2.out.2.2.2.1.ta.nb H2.out.2.2.1 (by decide) (by decide) (by subst e; exact hq)), h3⟩
    have KH3 : Hid (Kt w w3) := (KH1.out.below HLV.out).set k3 (by have h1 := HBO.out; have h2 := H2.out.2.2.2.2.1; omega)
    clear h3 k3 H2 hW3 HNV HLV HEV HOV H1
    by_cases h0 : er = 0
    · subst h0
      go_wp2_with (first | (refine wpList_load_tup (.tmp 8) rfl O3 y rfl H3.out.2.2.2.2 rfl ?_) | (refine wpList_store_tup (.tmp 6) (.tmp 26) rfl rfl O xz y rfl rfl H3.out.2.2.1 rfl ?_))
      intro w9 h9 k9
      have b9 : FT W t M N c E' w9 := H3.out.2.2.2.1.chO k9 (by have h1 := HG.out.1.bel.size; have h2 := HBO.out; omega) (fun q hq e => H3.out.2.2.2.1.ta.nb H3.out.2.2.1 (by decide) (by decide) (by subst e; exact hq))
      go_wp2_with fail
      refine bodyPost_ret (results_tup_tmp rfl _ _ O y rfl h9) rfl ?_
      exact ⟨y, true, E', rfl, .inl ⟨_, _, _, HR.out.1⟩, fun e => by omega, b9, HR.out.2, KH3.out.set k9 (by have h2 := HBO.out; omega)⟩
    · have q0 : (er == 0) = false := by simpa using h0
      go_wp2_with (first | (refine wpList_load_tup (.tmp 5) rfl D last rfl H3.out.2.1 rfl ?_) | (refine wpList_store_tup (.tmp 6) (.tmp 57) rfl rfl O xz last rfl rfl H3.out.2.2.1 rfl ?_))
      intro w9 h9 k9
      have b9 : FT W t M N c _ w9 := H3.out.2.2.2.1.chO k9 (by have h1 := HG.out.1.bel.size; have h2 := HBO.out; omega) (fun q hq e => H3.out.2.2.2.1.ta.nb H3.out.2.2.1 (by decide) (by decide) (by subst e; exact hq))
      go_wp2_with fail
      refine bodyPost_ret (results_tup_tmp rfl _ _ O last rfl h9) rfl ?_
      exact ⟨last, false, _, rfl, .inl ⟨_, _, _, HR.out.1⟩, fun e => by omega, b9, HG.out.2.2.2, KH3.out.set k9 (by have h2 := HBO.out; omega)⟩
  · have q1 : (kd == 1) = false := by simpa using h1
    by_cases h2 : kd = 2
    · have q2 : (kd == 2) = true := by simpa using h2
      have QI : Hid _ := H0.out.2.2.2.inn HG.out.2.1 s.x HG.out.2.2.1.x fl
      go_wp2_with (first | (refine wpList_mid_tup (.tmp 30) rfl B 2 s.x rfl H0.out.1.x rfl ?_))
      refine Calls.mono QI.out ?_
      rintro e1 w1 ⟨er, y, E', rfl, hR, hF, k1⟩
      have KH1 : Hid (Kt w w1) := KH0.out.tb H0.out.2.2.2.ta k1
      have H1 : Hid (StpAt w1 B s ∧ TupAt w1 D last ∧ TupAt w1 O xz ∧ FT W t M N c E' w1) := ⟨H0.out.1.tb H0.out.2.2.2.ta k1, H0.out.2.1.tb H0.out.2.2.2.ta k1, H0.out.2.2.1.tb H0.out.2.2.2.ta k1, hF⟩
      have HR : Hid (InR c E s.x s.fl er y E') := by show InR c E s.x s.fl er y E'; rw [HKD.out.2]; exact hR
      clear hR hF k1 QI c0 c39 H0
      go_wp2_with (first | (refine wpList_load_tup (.tmp 5) rfl D last rfl H1.out.2.1 rfl ?_) | (refine wpList_store_tup (.tmp 6) (.tmp 57) rfl rfl O xz last rfl rfl H1.out.2.2.1 rfl ?_))
      intro w9 h9 k9
      have b9 : FT W t M N c _ w9 := H1.out.2.2.2.chO k9 (by have h1 := HG.out.1.bel.size; have h2 := HBO.out; omega) (fun q hq e => H1.out.2.2.2.ta.nb H1.out.2.2.1 (by decide) (by decide) (by subst e; exact hq))
      go_wp2_with fail
      refine bodyPost_ret (results_tup_tmp rfl _ _ O last rfl h9) rfl ?_
      exact ⟨last, false, _, rfl, .inr (.inl ⟨_, _, _, HR.out⟩), fun e => by omega, b9, HG.out.2.2.2, KH1.out.set k9 (by have h2 := HBO.out; omega)⟩
    · have q2 : (kd == 2) = false := by simpa using h2
      by_cases h3 : kd = 3
      · have q3 : (kd == 3) = true := by simpa using h3
        go_upto_region 9 with fail
        refine MixH.start (fun A => StpAt A B s ∧ TupAt A D last ∧ TupAt A O xz) (by kernel_rfl) ?_
        obtain ⟨wA, hwA⟩ : ∃ wA, wA = Y.drew := ⟨_, rfl⟩
        have bdr : Below Y.heap.size Y wA := by rw [hwA]; exact (Below.refl _ _).drew
        have hS : StpAt wA B s ∧ TupAt wA D last ∧ TupAt wA O xz := ⟨H0.out.1.below bdr, H0.out.2.1.below bdr, H0.out.2.2.1.below bdr⟩
        have HFA : Hid (FT W t M N c E wA) := H0.out.2.2.2.below bdr
        have KHA : Hid (Kt w wA) := KH0.out.below bdr
        rw [← hwA]
        clear hwA bdr c0 c39 H0
        refine MixH.takes [true, false, false, true] 4 (by kernel_rfl) (by kernel_rfl) (by decide) (by kernel_rfl) hS (fun K hK => ?_)
        simp only [Mix.pick]
        repeat (go_big_quiet_step (fail))
        refine wpQuiet_nil (hK _ ?_)
        clear hK K
        refine MixH.take 3 1 _ (.agg (tuC last)) rfl (by kernel_rfl) (by kernel_rfl) (by kernel_rfl) (by kernel_rfl) (yields_tup (.tmp 5) rfl D 0 last rfl rfl (fun A hA => hA.2.1.all)) hS (fun a' ha => ?_)
        simp only [Act.put, List.setIfInBounds_toArray, List.set_cons_succ, List.set_cons_zero] at ha
        subst ha
        refine MixH.take 2 4 _ (.int .i64 fl) rfl (by kernel_rfl) (by kernel_rfl) (by kernel_rfl) (by kernel_rfl) (yields_int (.tmp 40) rfl ⟨B, 39, none⟩ (.int .i64 fl) rfl rfl (fun A hA => by have h1 : A.cell? ⟨B, 39, none⟩ = some (.int .i64 s.fl) := hA.1.cell 39; rw [HKD.out.2] at h1; exact h1)) hS (fun a' ha => ?_)
        simp only [Act.put, List.setIfInBounds_toArray, List.set_cons_succ, List.set_cons_zero] at ha
        subst ha
        refine MixH.one [false, false, true] 1 2 _ rfl rfl (by kernel_rfl) (by kernel_rfl) (fun K hK => ?_)
        simp only [Mix.pick]
        go_wp2_with fail
        refine Calls.mono (reverse_any last wA) ?_
        rintro e1 w1 ⟨rfl, b1⟩
        replace hS : StpAt w1 B s ∧ TupAt w1 D last ∧ TupAt w1 O xz := ⟨hS.1.below b1, hS.2.1.below b1, hS.2.2.below b1⟩
        have HF1 : Hid (FT W t M N c E w1) := HFA.out.below b1
        have KHB : Hid (Kt w w1) := KHA.out.below b1
        clear b1 HFA
        go_wp2_with fail
        refine ⟨rfl, hK _ _ hS ?_⟩
        clear hK K
        refine MixH.one [false, false, false, false, false, true] 0 5 _ rfl rfl (by kernel_rfl) (by kernel_rfl) (fun K hK => ?_)
        simp only [Mix.pick]
        have QI : Hid _ := HF1.out.inn HG.out.2.1 last.rev HG.out.2.2.2.rev fl
        go_wp2_with fail
        refine Calls.mono QI.out ?_
        rintro e2 w2 ⟨er, y, E', rfl, hR, hF, k1⟩
        have H1 : Hid (StpAt w2 B s ∧ TupAt w2 D last ∧ TupAt w2 O xz ∧ FT W t M N c E' w2) := ⟨hS.1.tb HF1.out.ta k1, hS.2.1.tb HF1.out.ta k1, hS.2.2.tb HF1.out.ta k1, hF⟩
        have KH1 : Hid (Kt w w2) := KHB.out.tb HF1.out.ta k1
        replace hS : StpAt w2 B s ∧ TupAt w2 D last ∧ TupAt w2 O xz := ⟨H1.out.1, H1.out.2.1, H1.out.2.2.1⟩
        have HR : Hid (InR c E last.rev s.fl er y E') := by show InR c E last.rev s.fl er y E'; rw [HKD.out.2]; exact hR
        clear hR hF k1 QI HF1
        go_wp2_with fail
        refine ⟨rfl, hK _ _ hS ?_⟩
        clear hK K
        refine MixH.done (by kernel_rfl) ?_
        clear hS
        go_wp2_with (first | (refine wpList_load_tup (.tmp 5) rfl D last rfl H1.out.2.1 rfl ?_) | (refine wpList_store_tup (.tmp 6) (.tmp 57) rfl rfl O xz last rfl rfl H1.out.2.2.1 rfl ?_))
        intro w9 h9 k9
        have b9 : FT W t M N c _ w9 := H1.out.2.2.2.chO k9 (by have h1 := HG.out.1.bel.size; have h2 := HBO.out; omega) (fun q hq e => H1.out.2.2.2.ta.nb H1.out.2.2.1 (by decide) (by decide) (by subst e; exact hq))
        go_wp2_with fail
        refine bodyPost_ret (results_tup_tmp rfl _ _ O last rfl h9) rfl ?_
        exact ⟨last, false, _, rfl, .inr (.inl ⟨_, _, _, HR.out⟩), fun e => by omega, b9, HG.out.2.2.2, KH1.out.set k9 (by have h2 := HBO.out; omega)⟩
      · have q3 : (kd == 3) = false := by simpa using h3
        by_cases h4 : kd = 4
        · have q4 : (kd == 4) = true := by simpa using h4
          clear h1 h2 h3 h4
          have c40 : Y.cell? ⟨B, 40, none⟩ = some (.int .i64 s.n) := H0.out.1.cell 40
          clear c0 c39
          go_wp2_with fail
          go_loopw [10] (fun ix wr => ∃ k : Nat, ix = .int .i64 (k : Nat) ∧ k ≤ 40 ∧ Hid (StpAt wr B s ∧ TupAt wr D last ∧ TupAt wr O xz ∧ FT W t M N c (tkn k E) wr) ∧ Hid (Kt w wr)) (fun ix _ => 40 - (intOf ix).toNat)
          case atStart => exact ⟨0, rfl, by omega, H0.out, KH0.out⟩
          case round =>
            clear c40 H0
            obtain ⟨k, rfl, hk, HI, KHI⟩ := hrel
            have c40 : wr.cell? ⟨B, 40, none⟩ = some (.int .i64 s.n) := HI.out.1.cell 40
            obtain ⟨n, hn⟩ : ∃ n, s.n = n := ⟨_, rfl⟩
            rw [hn] at c40
            clear hn
            by_cases ha : (k : Int) < n
            · have p1 : decide ((k : Int) < n) = true := decide_eq_true ha
              by_cases hb : k < 40
              · have p2 : decide ((k : Int) < 40) = true := decide_eq_true (by omega)
                have p3 : decide (k < 40) = true := decide_eq_true hb
                have wk : IntKind.i64.wrap ((k : Int) + 1) = (k : Int) + 1 := i64_k _ (by omega) (by omega)
                have QT : Hid _ := HI.out.2.2.2.tick
                go_wp2_with fail
                refine Calls.mono QT.out ?_
                rintro e2 w2 ⟨rfl, hF, k2⟩
                have H2 : Hid (StpAt w2 B s ∧ TupAt w2 D last ∧ TupAt w2 O xz ∧ FT W t M N c (tkn (k + 1) E) w2) := ⟨HI.out.1.tb HI.out.2.2.2.ta k2, HI.out.2.1.tb HI.out.2.2.2.ta k2, HI.out.2.2.1.tb HI.out.2.2.2.ta k2, hF⟩
                have KH2 : Hid (Kt w w2) := KHI.out.tb HI.out.2.2.2.ta k2
                clear hF k2 QT c40 HI
                go_wp2_with fail
                go_roundw
                case rel => exact ⟨k + 1, by go_num, by omega, H2.out, KH2.out⟩
                case measure => simp [intOf]; omega
              · have p2 : decide ((k : Int) < 40) = false := decide_eq_false (by omega)
                have p3 : decide (k < 40) = false := decide_eq_false hb
                clear hb ha hk
                go_wp2_with (first | (refine wpList_load_tup (.tmp 5) rfl D last rfl HI.out.2.1 rfl ?_) | (refine wpList_store_tup (.tmp 6) (.tmp 57) rfl rfl O xz last rfl rfl HI.out.2.2.1 rfl ?_))
                intro w9 h9 k9
                have b9 : FT W t M N c _ w9 := HI.out.2.2.2.chO k9 (by have h1 := HG.out.1.bel.size; have h2 := HBO.out; omega) (fun q hq e => HI.out.2.2.2.ta.nb HI.out.2.2.1 (by decide) (by decide) (by subst e; exact hq))
                go_wp2_with fail
                refine bodyPost_ret (results_tup_tmp rfl _ _ O last rfl h9) rfl ?_
                exact ⟨last, false, _, rfl, .inr (.inr ⟨_, rfl⟩), fun _ => ⟨⟨_, rfl⟩, rfl⟩, b9, HG.out.2.2.2, KHI.out.set k9 (by have h2 := HBO.out; omega)⟩
            · have p1 : decide ((k : Int) < n) = false := decide_eq_false ha
              clear ha hk
              go_wp2_with (first | (refine wpList_load_tup (.tmp 5) rfl D last rfl HI.out.2.1 rfl ?_) | (refine wpList_store_tup (.tmp 6) (.tmp 57) rfl rfl O xz last rfl rfl HI.out.2.2.1 rfl ?_))
              intro w9 h9 k9
              have b9 : FT W t M N c _ w9 := HI.out.2.2.2.chO k9 (by have h1 := HG.out.1.bel.size; have h2 := HBO.out; omega) (fun q hq e => HI.out.2.2.2.ta.nb HI.out.2.2.1 (by decide) (by decide) (by subst e; exact hq))
              go_wp2_with fail
              refine bodyPost_ret (results_tup_tmp rfl _ _ O last rfl h9) rfl ?_
              exact ⟨last, false, _, rfl, .inr (.inr ⟨_, rfl⟩), fun _ => ⟨⟨_, rfl⟩, rfl⟩, b9, HG.out.2.2.2, KHI.out.set k9 (by have h2 := HBO.out; omega)⟩
        · have q4 : (kd == 4) = false := by simpa using h4
          go_wp2_with (first | (refine wpList_load_tup (.tmp 5) rfl D last rfl H0.out.2.1 rfl ?_) | (refine wpList_store_tup (.tmp 6) (.tmp 57) rfl rfl O xz last rfl rfl H0.out.2.2.1 rfl ?_))
          intro w9 h9 k9
          have b9 : FT W t M N c _ w9 := H0.out.2.2.2.chO k9 (by have h1 := HG.out.1.bel.size; have h2 := HBO.out; omega) (fun q hq e => H0.out.2.2.2.ta.nb H0.out.2.2.1 (by decide) (by decide) (by subst e; exact hq))
          go_wp2_with fail
          refine bodyPost_ret (results_tup_tmp rfl _ _ O last rfl h9) rfl ?_
          exact ⟨last, false, _, rfl, .inr (.inr ⟨0, rfl⟩), fun e => absurd e h4, b9, HG.out.2.2.2, KH0.out.set k9 (by have h2 := HBO.out; omega)⟩
end Go.Proofs.YtclpeepnngegaaaDoor
namespace Go.Proofs.YtclpeepnngegaaaDoor
open Go.RowKit Go.Maps

theorem fl_part0 (x : FN) (w : World) : (part 34 (flC x) 0).run Tryd.prog w = .ok (.agg (tuC x.x)) w := by kernel_rfl
theorem fl_part1 (x : FN) (w : World) : (part 3 (flC x) 37).run Tryd.prog w = .ok (.int .i64 x.po) w := by kernel_rfl
theorem fl_part2 (x : FN) (w : World) : (part 3 (flC x) 38).run Tryd.prog w = .ok (.int .i64 x.st) w := by kernel_rfl
theorem fl_part3 (x : FN) (w : World) : (part 3 (flC x) 39).run Tryd.prog w = .ok (.int .i64 x.le) w := by kernel_rfl
theorem Tryd.flFields : Tryd.prog.underlying 55 = some (.struct (Tryd.prog.fieldsOf 55)) := by kernel_rfl
theorem Tryd.flStood : Tryd.prog.stoodInHeld 55 = false := by kernel_rfl
theorem Tryd.flGuard : Tryd.prog.eqGuardType Tryd.prog.depth 55 = false := by kernel_rfl
def eqF (x y : FN) : Bool := eqP x.x y.x && (x.po == y.po && (x.st == y.st && x.le == y.le))
theorem eqF_refl (x : FN) : eqF x x = true := by unfold eqF; rw [eqP_refl]; simp
set_option maxHeartbeats 1600000 in
set_option maxRecDepth 100000 in
theorem eqFl (x y : FN) (w : World) : (Op.equalIn 10000 55 (.agg (flC x)) (.agg (flC y))).run Tryd.prog w = .ok (eqF x y) w := by
  rw [show (10000 : Nat) = 9999 + 1 from rfl, run_equalIn_struct w 9999 55 _ _ Tryd.flFields Tryd.flStood]
  rw [show (Tryd.prog.fieldsOf 55).toList = [{ name := "Tuple", type := 34, offset := 0, embedded := false, tag := "", pkgPath := "", byteOffset := 0 }, { name := "Port", type := 3, offset := 37, embedded := false, tag := "", pkgPath := "", byteOffset := 72 }, { name := "State", type := 3, offset := 38, embedded := false, tag := "", pkgPath := "", byteOffset := 80 }, { name := "Left", type := 3, offset := 39, embedded := false, tag := "", pkgPath := "", byteOffset := 88 }] from by kernel_rfl]
  simp only [Op.eqFields, Sem.run_bind, Sem.run_ite]
  rw [if_pos (by decide)]
  simp only [fl_part0, Result.andThen_ok]
  rw [show (9999 : Nat) = 9994 + 5 from rfl, eqTu x.x y.x w 9994]
  unfold eqF
  cases h : eqP x.x y.x
  · simp
  · simp only [Result.andThen_ok, Bool.not_true, Bool.false_eq_true, if_false, fl_part1]
    rw [if_pos (by decide), show (9994 + 5 : Nat) = 9998 + 1 from rfl, run_equalIn_int w 9998 3 .i64 .i64 x.po y.po Tryd.underlying3]
    cases h2 : x.po == y.po
    · simp
    · simp only [Bool.not_true, Bool.false_eq_true, if_false, fl_part2, Result.andThen_ok]
      rw [if_pos (by decide), run_equalIn_int w 9998 3 .i64 .i64 x.st y.st Tryd.underlying3]
      cases h3 : x.st == y.st
      · simp
      · simp only [Bool.not_true, Bool.false_eq_true, if_false, fl_part3, Result.andThen_ok]
        rw [if_pos (by decide), run_equalIn_int w 9998 3 .i64 .i64 x.le y.le Tryd.underlying3]
        cases h4 : x.le == y.le <;> simp
theorem yields_eql_fl {ops : Array Oper} {o : Oper} {a : Act} {S : World → Prop} (X Y : Operand) (ho : o.op = .binOp .eql 55 X Y 55) (x y : FN) (hx : a.eval X = .agg (flC x)) (hy : a.eval Y = .agg (flC y)) (b : Bool) (hb : (eqF x y) = b) (hw : Region.wanted o (yielded ops a.tmps) = true) : YieldsIf Tryd.prog ops S o (.bool b) a := by
  refine .inl ⟨hw, fun w _ => ?_⟩
  subst hb
  obtain ⟨dst, op, type, pos, after, guard⟩ := o
  simp only at ho
  subst ho
  simp only [execOp, Sem.run_bind, Sem.run_pure, hx, hy, run_eqGuard_agg w .eql 55 _ _ _ _ Tryd.flGuard, Result.andThen_ok, run_eql_struct, eqFl]
theorem yields_neq_fl {ops : Array Oper} {o : Oper} {a : Act} {S : World → Prop} (X Y : Operand) (ho : o.op = .binOp .neq 55 X Y 55) (x y : FN) (hx : a.eval X = .agg (flC x)) (hy : a.eval Y = .agg (flC y)) (b : Bool) (hb : (!eqF x y) = b) (hw : Region.wanted o (yielded ops a.tmps) = true) : YieldsIf Tryd.prog ops S o (.bool b) a := by
  refine .inl ⟨hw, fun w _ => ?_⟩
  subst hb
  obtain ⟨dst, op, type, pos, after, guard⟩ := o
  simp only at ho
  subst ho
  simp only [execOp, Sem.run_bind, Sem.run_pure, hx, hy, run_eqGuard_agg w .neq 55 _ _ _ _ Tryd.flGuard, Result.andThen_ok, run_neq_struct, eqFl]
theorem rng_drew {w A : World} {g o : Nat} {l : List Value} (h : A = w.drew) (r : w.rangeAt g o l) : A.rangeAt g o l := by
  subst h
  exact r
set_option maxHeartbeats 1600000 in
set_option maxRecDepth 100000 in
theorem sameFlows_any (b1 b2 : Nat) (v1 v2 : Value) (S : List FN) (w : World) (h1 : FL w b1 v1 S) (h2 : FL w b2 v2 S) (hS : S.length ≤ 4096) : Calls Tryd.prog 22 #[v1, v2] w fun r w' => r = .returned (.bool true) ∧ Below w.heap.size w w' := by
  have HH : Hid (FL w b1 v1 S ∧ FL w b2 v2 S) := ⟨h1, h2⟩
  obtain ⟨a1, c1, e1⟩ : ∃ a c, v1 = .slice a S.length c := h1.form
  obtain ⟨a2, c2, e2⟩ : ∃ a c, v2 = .slice a S.length c := h2.form
  obtain ⟨n, hn⟩ : ∃ n, S.length = n := ⟨_, rfl⟩
  rw [hn] at e1 e2 hS
  have HN : Hid (S.length = n) := hn
  clear h1 h2 hn
  subst e1 e2
  have q1 : ((n : Int) != (n : Int)) = false := by simp
  go_enter Tryd.func22, Tryd.ntmps22
  go_wp2_with fail
  go_loopw [5] (fun ix wr => ∃ k : Nat, ix = .int .i64 (k : Nat) ∧ k ≤ n ∧ Hid (FL wr b1 (.slice a1 n c1) S ∧ FL wr b2 (.slice a2 n c2) S ∧ Below w.heap.size w wr)) (fun ix _ => n - (intOf ix).toNat)
  case atStart => exact ⟨0, rfl, Nat.zero_le _, HH.out.1, HH.out.2, Below.refl _ _⟩
  case round =>
    clear HH
    obtain ⟨k, rfl, hk, HI⟩ := hrel
    by_cases hkn : k < n
    · have p1 : decide ((k : Int) < (n : Int)) = true := decide_eq_true (by omega)
      have p2 : decide (k < n) = true := decide_eq_true hkn
      have k0 : (0 : Int) ≤ (k : Int) := by omega
      have k1 : (k : Int) < (n : Int) := by omega
      have k2 : ((k : Int)).toNat = k := by omega
      have wk : IntKind.i64.wrap ((k : Int) + 1) = (k : Int) + 1 := i64_k _ (by omega) (by omega)
      obtain ⟨f, hf⟩ : ∃ f, S[k]? = some f := ⟨_, List.getElem?_eq_getElem (by rw [HN.out]; exact hkn)⟩
      obtain ⟨g1, d1, e1, _, _, r1⟩ := HI.out.1.at k f hf
      obtain ⟨g2, d2, e2, _, _, r2⟩ := HI.out.2.1.at k f hf
      simp only [Value.slice.injEq] at e1 e2
      obtain ⟨rfl, x1, x2⟩ := e1
      obtain ⟨rfl, x3, x4⟩ := e2
      clear x1 x2 x3 x4 hf
      have HR : Hid (wr.rangeAt g1 (k * 40) (flC f).toList ∧ wr.rangeAt g2 (k * 40) (flC f).toList) := ⟨r1, r2⟩
      clear r1 r2
      go_upto_region 6 with fail
      refine MixH.start (fun A => A.rangeAt g1 (k * 40) (flC f).toList ∧ A.rangeAt g2 (k * 40) (flC f).toList) (by kernel_rfl) ?_
      obtain ⟨wA, hwA⟩ : ∃ wA, wA = wr.drew := ⟨_, rfl⟩
      have bdr : Below wr.heap.size wr wA := by rw [hwA]; exact (Below.refl _ _).drew
      have HA : Hid (FL wA b1 (.slice (some ⟨g1, 0, none⟩) n c1) S ∧ FL wA b2 (.slice (some ⟨g2, 0, none⟩) n c2) S ∧ Below w.heap.size w wA) := ⟨HI.out.1.below bdr, HI.out.2.1.below bdr, bthen HI.out.2.2 bdr⟩
      have hS : wA.rangeAt g1 (k * 40) (flC f).toList ∧ wA.rangeAt g2 (k * 40) (flC f).toList := ⟨rng_drew hwA HR.out.1, rng_drew hwA HR.out.2⟩
      rw [← hwA]
      clear hwA bdr HI HR
      refine MixH.takes [true, true, true, false, true, true, true] 3 (by kernel_rfl) (by kernel_rfl) (by decide) (by kernel_rfl) hS (fun K hK => ?_)
      simp only [Mix.pick]
      repeat (go_big_quiet_step (fail))
      refine wpQuiet_nil (hK _ ?_)
      clear hK K
      refine MixH.take 2 3 _ (.agg (flC f)) rfl (by kernel_rfl) (by kernel_rfl) (by kernel_rfl) (by kernel_rfl) (yields_flo (.tmp 19) rfl g1 (k * 40) f rfl rfl (fun A hA => hA.1)) hS (fun a' ha => ?_)
      simp only [Act.put, List.setIfInBounds_toArray, List.set_cons_succ, List.set_cons_zero] at ha
      subst ha
      refine MixH.take 1 7 _ (.agg (flC f)) rfl (by kernel_rfl) (by kernel_rfl) (by kernel_rfl) (by kernel_rfl) (yields_flo (.tmp 23) rfl g2 (k * 40) f rfl rfl (fun A hA => hA.2)) hS (fun a' ha => ?_)
      simp only [Act.put, List.setIfInBounds_toArray, List.set_cons_succ, List.set_cons_zero] at ha
      subst ha
      refine MixH.take 0 8 _ (.bool false) rfl (by kernel_rfl) (by kernel_rfl) (by kernel_rfl) (by kernel_rfl) (yields_neq_fl (.tmp 20) (.tmp 24) rfl f f rfl rfl false (by rw [eqF_refl]; rfl) rfl) hS (fun a' ha => ?_)
      simp only [Act.put, List.setIfInBounds_toArray, List.set_cons_succ, List.set_cons_zero] at ha
      subst ha
      refine MixH.done (by kernel_rfl) ?_
      clear hS
      go_wp2_with fail
      go_roundw
      case rel => exact ⟨k + 1, by go_num, by omega, HA.out⟩
      case measure => simp [intOf]; omega
    · have p1 : decide ((k : Int) < (n : Int)) = false := decide_eq_false (by omega)
      have p2 : decide (k < n) = false := decide_eq_false hkn
      clear hkn hk
      go_wp2_with fail
      go_ret
      exact ⟨rfl, HI.out.2.2⟩
theorem by16_inj {x y : Nat → Nat} (hx : ∀ i, i < 16 → x i < 256) (hy : ∀ i, i < 16 → y i < 256) (h : by16 x = by16 y) : same16 x y = true := by
  rw [same16_iff]
  intro i hi
  have h1 : (by16 x)[i]? = (by16 y)[i]? := by rw [h]
  simp [by16, Lib.bytesOf, toI, ipL, hi] at h1
  have h2 := congrArg UInt8.toNat h1
  have h3 := hx i hi
  have h4 := hy i hi
  simp at h2
  omega
theorem or5_zero {a b c d e : Int} (h : or5 a b c d e = 0) : a = 0 ∧ b = 0 ∧ c = 0 ∧ d = 0 ∧ e = 0 := by
  unfold or5 at h
  repeat' split at h
  all_goals omega
theorem ciV_zero {x y : Int} (h : ciV x y = 0) : x = y := by
  unfold ciV at h
  split at h
  · omega
  · split at h <;> omega
theorem ipV_zero {V : Int} {x : Nat → Nat} {U : Int} {y : Nat → Nat} (hx : ∀ i, i < 16 → x i < 256) (hy : ∀ i, i < 16 → y i < 256) (h : ipV V x U y = 0) : V = U ∧ same16 x y = true := by
  unfold ipV at h
  split at h
  · rename_i h0
    refine ⟨ciV_zero h0, ?_⟩
    rcases cb_tri x y with ⟨_, _, e⟩ | ⟨_, _, e⟩ | ⟨e, _⟩
    · omega
    · omega
    · exact by16_inj hx hy e
  · omega
/-- two tuples that compare as the same are the same -/
theorem ordT_zero {a b : TU} (ha : a.Wf) (hb : b.Wf) (h : ordT a b = 0) : eqP a b = true := by
  obtain ⟨h1, h2, h3, h4, h5⟩ := or5_zero h
  obtain ⟨e1, e2⟩ := ipV_zero ha.s hb.s h2
  obtain ⟨e3, e4⟩ := ipV_zero ha.d hb.d h4
  have e5 := ciV_zero h1
  have e6 := ciV_zero h3
  have e7 := ciV_zero h5
  unfold eqP
  rw [e1, e2, e3, e4, e5, e6, e7]
  simp
theorem fn_uniq : ∀ {E S : List FN}, S.Perm E → S.Pairwise (fun a b => 0 ≤ ordV b a) → E.Pairwise (fun a b => ordV a b < 0) → S = E
  | [], S, h, _, _ => List.Perm.eq_nil h
  | e :: E, S, h, hs, he => by
    cases S with
    | nil => have := h.length_eq; simp at this
    | cons s S =>
      obtain ⟨e1, e2⟩ := List.pairwise_cons.1 he
      obtain ⟨s1, s2⟩ := List.pairwise_cons.1 hs
      have hse : s = e := by
        rcases List.mem_cons.1 (h.mem_iff.1 (by simp : s ∈ s :: S)) with h1 | h1
        · exact h1
        · rcases List.mem_cons.1 (h.mem_iff.2 (by simp : e ∈ e :: E)) with h2 | h2
          · exact h2.symm
          · have a1 := e1 s h1
            have a2 := s1 e h2
            omega
      subst hse
      rw [fn_uniq (List.Perm.cons_inv h) s2 e2]
/-- a list of flows as Dump tells them: rising, no tuple twice -/
theorem dump_lt {E : List FV} {S : List FN} (dj : Dj E) (hw : ∀ e ∈ E, e.n.x.Wf) (h : DumpR E S) : S.Pairwise (fun a b => ordV a b < 0) := by
  have h1 : (E.map FV.n).Pairwise (fun a b => eqP a.x b.x = false) := by rw [List.pairwise_map]; exact dj
  have h2 : S.Pairwise (fun a b => eqP a.x b.x = false) := (h.1.pairwise_iff (fun {a b} hab => by rw [eqP_comm]; exact hab)).2 h1
  have h3 : ∀ f ∈ S, f.x.Wf := fun f hf => by
    obtain ⟨e, he, rfl⟩ := List.mem_map.1 (h.1.mem_iff.1 hf)
    exact hw e he
  refine List.Pairwise.imp_of_mem ?_ (h.2.and h2)
  rintro a b ha hb ⟨p1, p2⟩
  have p3 := ordV_cmp.anti a b
  have p4 : ordV a b ≠ 0 := fun e => by
    have := ordT_zero (h3 a ha) (h3 b hb) e
    rw [this] at p2
    cases p2
  omega
/-- a flow behind n ticks -/
def lf (n : Nat) (f : FN) : Option FN := if (n : Int) < f.le then some { f with le := f.le - n } else none
def tkf (f : FN) : Option FN := if f.le - 1 == 0 then none else some { f with le := f.le - 1 }
theorem tk1_n (e : FV) : (tk1 e).map FV.n = tkf e.n := by
  unfold tk1 tkf
  split <;> rfl
theorem lf_next (n : Nat) (f : FN) : (lf n f).bind tkf = lf (n + 1) f := by
  unfold lf
  by_cases h : (n : Int) < f.le
  · rw [if_pos h, Option.bind_some]
    unfold tkf
    by_cases h2 : (n : Int) + 1 < f.le
    · have e : (f.le - n - 1 == 0) = false := by simp; omega
      dsimp only
      rw [e, if_neg (by decide), if_pos (by omega)]
      congr 1
      simp
      omega
    · have e : (f.le - n - 1 == 0) = true := by simp; omega
      dsimp only
      rw [e, if_pos rfl, if_neg (by omega)]
  · rw [if_neg h, if_neg (by omega)]
    rfl
theorem tkn_map {E : List FV} (hE : ∀ e ∈ E, LeOk e) : ∀ n : Nat, (tkn n E).map FV.n = (E.map FV.n).filterMap (lf n)
  | 0 => by
    show E.map FV.n = _
    have : (E.map FV.n).filterMap (lf 0) = (E.map FV.n).filterMap some := fm_congr (fun f hf => by
      obtain ⟨e, he, rfl⟩ := List.mem_map.1 hf
      unfold lf
      have := (hE e he).lo
      rw [if_pos (by omega)]
      simp)
    rw [this, List.filterMap_some]
  | n + 1 => by
    show ((tkn n E).filterMap tk1).map FV.n = _
    have h1 : ((tkn n E).filterMap tk1).map FV.n = ((tkn n E).map FV.n).filterMap tkf := by
      rw [List.map_filterMap, List.filterMap_map]
      exact fm_congr (fun e _ => tk1_n e)
    rw [h1, tkn_map hE n, List.filterMap_filterMap]
    exact fm_congr (fun f _ => lf_next n f)
/-- how many end at the n-th tick -/
def cnN (n : Nat) (S : List FN) : Nat := (S.filter (fun f => f.le == (n : Int))).length
theorem cn_next (n : Nat) : ∀ L : List FN, ((L.filterMap (lf n)).filter (fun f => f.le - 1 == 0)).length = cnN (n + 1) L
  | [] => rfl
  | f :: L => by
    have ih := cn_next n L
    unfold cnN at ih ⊢
    rw [List.filterMap_cons, List.filter_cons]
    unfold lf at ih ⊢
    by_cases h : (n : Int) < f.le
    · rw [if_pos h]
      dsimp only
      rw [List.filter_cons]
      by_cases h2 : f.le = (n : Int) + 1
      · have e1 : (f.le - n - 1 == 0) = true := by simp; omega
        have e2 : (f.le == ((n + 1 : Nat) : Int)) = true := by simp; omega
        dsimp only
        rw [e1, e2, if_pos rfl, if_pos rfl, List.length_cons, List.length_cons, ih]
      · have e1 : (f.le - n - 1 == 0) = false := by simp; omega
        have e2 : (f.le == ((n + 1 : Nat) : Int)) = false := by simp; omega
        dsimp only
        rw [e1, e2, if_neg (by decide), if_neg (by decide), ih]
    · have e2 : (f.le == ((n + 1 : Nat) : Int)) = false := by simp; omega
      rw [if_neg h, e2, if_neg (by decide)]
      exact ih
theorem endN_tkn {E : List FV} {S : List FN} (hE : ∀ e ∈ E, LeOk e) (h : S.Perm (E.map FV.n)) (n : Nat) : endN (tkn n E) = cnN (n + 1) S := by
  have h1 : endN (tkn n E) = (((tkn n E).map FV.n).filter (fun f => f.le - 1 == 0)).length := by
    unfold endN
    rw [List.filter_map, List.length_map]
    rfl
  rw [h1, tkn_map hE, cn_next]
  exact ((h.filter _).length_eq).symm
/-- what Dump tells behind n ticks -/
theorem dump_tkn {E : List FV} {S T : List FN} (dj : Dj E) (hw : ∀ e ∈ E, e.n.x.Wf) (hE : ∀ e ∈ E, LeOk e) (h : DumpR E S) (n : Nat) (hT : DumpR (tkn n E) T) : T = S.filterMap (lf n) := by
  have h1 := dump_lt dj hw h
  refine fn_uniq ?_ hT.2 ?_
  · have h2 := hT.1
    rw [tkn_map hE] at h2
    exact h2.trans (h.1.filterMap (lf n)).symm
  · have hx : ∀ f g : FN, lf n f = some g → g.x = f.x := fun f g hg => by
      unfold lf at hg
      split at hg
      · obtain rfl := Option.some.inj hg
        rfl
      · cases hg
    refine (List.pairwise_filterMap).2 (h1.imp ?_)
    intro a b hab a' ha b' hb
    unfold ordV at hab ⊢
    rw [hx a a' ha, hx b b' hb]
    exact hab
end Go.Proofs.YtclpeepnngegaaaDoor
namespace Go.Proofs.YtclpeepnngegaaaDoor
open Go.RowKit Go.Maps

/-- the tuple with which a flow's packets go out -/
def goT (c : CF) (f : FN) : TU := if f.x.sV == 4 then { f.x with sp := f.po, sV := c.oV, s := c.o } else { f.x with sp := f.po }
set_option maxHeartbeats 1600000 in
set_option maxRecDepth 100000 in
theorem goesOut_any (c : CF) (f : FN) (w : World) : Calls Tryd.prog 21 #[.agg (cfC c), .agg (flC f)] w fun r w' => r = .returned (.agg (tuC (goT c f))) ∧ Below w.heap.size w w' := by
  have hb := cfg_new w c
  have bel : Below w.heap.size w (w.alloc (.cells (cfC c) 26)) := (Below.refl _ _).alloc (Nat.le_refl _) _
  obtain ⟨CX, hC⟩ : ∃ C, C = cfC c := ⟨_, rfl⟩
  obtain ⟨Wb, hW⟩ : ∃ W_, W_ = w.alloc (.cells (cfC c) 26) := ⟨_, rfl⟩
  rw [← hW] at hb bel
  have HSZX : Hid (Wb.heap.size = w.heap.size + 1) := by show _ = _; rw [hW, World.size_alloc]
  obtain ⟨B, hB⟩ : ∃ B, B = w.heap.size := ⟨_, rfl⟩
  rw [← hB] at hb
  have HBX : Hid (CfgAt Wb B c) := hb
  rw [← hC] at hW ⊢
  have HOX : Hid (w.heap.size = B) := hB.symm
  have HLX : Hid (Below w.heap.size w Wb) := bel
  have HWX : Hid (w.alloc (.cells CX 26) = Wb) := hW.symm
  clear hb hW hB hC bel
  have hb := flo_new Wb f
  have bel : Below Wb.heap.size Wb (Wb.alloc (.cells (flC f) 55)) := (Below.refl _ _).alloc (Nat.le_refl _) _
  obtain ⟨CZ, hC⟩ : ∃ C, C = flC f := ⟨_, rfl⟩
  obtain ⟨Wd, hW⟩ : ∃ W_, W_ = Wb.alloc (.cells (flC f) 55) := ⟨_, rfl⟩
  rw [← hW] at hb bel
  have HSZZ : Hid (Wd.heap.size = Wb.heap.size + 1) := by show _ = _; rw [hW, World.size_alloc]
  obtain ⟨D, hB⟩ : ∃ B, B = Wb.heap.size := ⟨_, rfl⟩
  rw [← hB] at hb
  have HBZ : Hid (FloAt Wd D f) := hb
  rw [← hC] at hW ⊢
  have HOZ : Hid (Wb.heap.size = D) := hB.symm
  have HLZ : Hid (Below Wb.heap.size Wb Wd) := bel
  have HWZ : Hid (Wb.alloc (.cells CZ 55) = Wd) := hW.symm
  clear hb hW hB hC bel
  obtain ⟨Ya, hY⟩ : ∃ Y, Y = Wd.alloc (.cells (tuC xz) 34) := ⟨_, rfl⟩
  have bY : Below Wd.heap.size Wd Ya := by rw [hY]; exact (Below.refl _ _).alloc (Nat.le_refl _) _
  obtain ⟨O, hO⟩ : ∃ O, O = Wd.heap.size := ⟨_, rfl⟩
  have HNY : Hid (TupAt Ya O xz) := by show TupAt Ya O xz; rw [hY, hO]; exact tup_new Wd xz
  have HLY : Hid (Below Wd.heap.size Wd Ya) := bY
  have HEY : Hid (Wd.alloc (.cells (tuC xz) 34) = Ya) := hY.symm
  have HOY : Hid (Wd.heap.size = O) := hO.symm
  clear hY bY hO
  obtain ⟨Y2, hY⟩ : ∃ Y, Y = Ya.alloc (.cells (tuC xz) 34) := ⟨_, rfl⟩
  have bY : Below Ya.heap.size Ya Y2 := by rw [hY]; exact (Below.refl _ _).alloc (Nat.le_refl _) _
  obtain ⟨O2, hO⟩ : ∃ O, O = Ya.heap.size := ⟨_, rfl⟩
  have HNV : Hid (TupAt Y2 O2 xz) := by show TupAt Y2 O2 xz; rw [hY, hO]; exact tup_new Ya xz
  have HLV : Hid (Below Ya.heap.size Ya Y2) := bY
  have HEV : Hid (Ya.alloc (.cells (tuC xz) 34) = Y2) := hY.symm
  have HOV : Hid (Ya.heap.size = O2) := hO.symm
  clear hY bY hO
  have H0 : Hid (CfgAt Y2 B c ∧ FloAt Y2 D f ∧ TupAt Y2 O xz ∧ TupAt Y2 O2 xz ∧ Below w.heap.size w Y2 ∧ (w.heap.size = B ∧ B < D ∧ D < O ∧ O < O2)) := by
    have b1 := bthen HLX.out HLZ.out
    have b2 := bthen b1 HLY.out
    refine ⟨((HBX.out.below HLZ.out).below HLY.out).below HLV.out, (HBZ.out.below HLY.out).below HLV.out, HNY.out.below HLV.out, HNV.out, bthen b2 HLV.out, HOX.out, ?_⟩
    have h1 := HOX.out; have h2 := HSZX.out; have h3 := HOZ.out; have h4 := HSZZ.out; have h5 := HOY.out; have h6 := HNY.out.lt; have h7 := HOV.out
    omega
  have HFY : Hid (FloAt Ya D f) := HBZ.out.below HLY.out
  go_enter Tryd.func21, Tryd.ntmps21
  go_upto_region 2 with (first | (rw [HOX.out, HWX.out]) | (rw [HOZ.out, HWZ.out]) | (refine wpList_alloc_tup rfl rfl ?_; first | rw [HEY.out, HOY.out] | rw [HEV.out, HOV.out]) | (refine wpList_mid_tup (.tmp 6) rfl D 0 f.x rfl HFY.out.tup rfl ?_) | (refine wpList_store_tup (.tmp 5) (.tmp 7) rfl rfl O2 xz f.x rfl rfl H0.out.2.2.2.1 rfl ?_; intro w2 h2 k2))
  have H2 : Hid (CfgAt w2 B c ∧ FloAt w2 D f ∧ TupAt w2 O xz ∧ TupAt w2 O2 f.x ∧ Below w.heap.size w w2) := by
    obtain ⟨y1, y2, y3, y4, y5, y6⟩ := H0.out
    exact ⟨y1.ch k2 (by omega), y2.ch k2 (by omega), y3.ch k2 (by omega), h2, y5.trans (k2.below (fun q hq => by have hq' : q = O2 := hq; omega) y5.size)⟩
  clear h2 k2
  obtain ⟨po, hpo⟩ : ∃ p, f.po = p := ⟨_, rfl⟩
  have c37 : w2.cell? ⟨D, 37, none⟩ = some (.int .i64 po) := by have h1 := H2.out.2.1.c37; rw [hpo] at h1; exact h1
  have c35 := H2.out.2.2.2.1.c35
  have z35 := H2.out.2.2.2.1.fz 35
  have HPO : Hid (f.po = po) := hpo
  clear hpo
  go_upto_region 3 with fail
  obtain ⟨w3, hw3⟩ : ∃ y, w2.setCell ⟨O2, 35, none⟩ (.int .i64 po) = y := ⟨_, rfl⟩
  obtain ⟨x2, hx2⟩ : ∃ x : TU, x = { f.x with sp := po } := ⟨_, rfl⟩
  have H3 : Hid (CfgAt w3 B c ∧ TupAt w3 O xz ∧ TupAt w3 O2 x2 ∧ Below w.heap.size w w3) := by
    have y6 := H0.out.2.2.2.2.2
    have h1 := TupAt.set (x' := { f.x with sp := po }) H2.out.2.2.2.1 35 (.int .i64 po) (by rfl)
    have k4 := (Ch.refl (fun q => q = O2) w2).set ⟨O2, 35, none⟩ (.int .i64 po) rfl
    rw [hw3] at h1 k4
    exact ⟨H2.out.1.ch k4 (by omega), H2.out.2.2.1.ch k4 (by omega), by rw [hx2]; exact h1, H2.out.2.2.2.2.trans (k4.below (fun q hq => by have hq' : q = O2 := hq; omega) H2.out.2.2.2.2.size)⟩
  rw [hw3]
  have c1 : w3.cell? ⟨O2, 1, none⟩ = some (.int .i64 f.x.sV) := by have h1 := H3.out.2.2.1.c1; rw [hx2] at h1; exact h1
  have HX2 : Hid (x2 = { f.x with sp := f.po }) := by show _ = _; rw [HPO.out]; exact hx2
  clear c37 c35 z35 H2 hw3 hx2
  obtain ⟨sv, hsv⟩ : ∃ v, f.x.sV = v := ⟨_, rfl⟩
  rw [hsv] at c1
  have HSV : Hid (f.x.sV = sv) := hsv
  clear hsv
  by_cases h4 : sv = 4
  · have q4 : (sv == 4) = true := by simpa using h4
    have HGO : Hid (goT c f = { x2 with sV := c.oV, s := c.o }) := by
      show _ = _
      unfold goT
      rw [HSV.out, q4, if_pos rfl, HX2.out]
    clear h4
    go_upto_region 5 with (first | (refine wpList_mid_ipr (.tmp 15) rfl B 1 c.oV c.o rfl H3.out.1.out rfl ?_) | (refine wpList_set_src (.tmp 17) (.tmp 16) rfl rfl O2 x2 c.oV c.o rfl rfl H3.out.2.2.1 rfl ?_; intro w4 h4 k4))
    have H4 : Hid (TupAt w4 O xz ∧ TupAt w4 O2 (goT c f) ∧ Below w.heap.size w w4) := by
      have y6 := H0.out.2.2.2.2.2
      exact ⟨H3.out.2.1.ch k4 (by omega), by rw [HGO.out]; exact h4, H3.out.2.2.2.trans (k4.below (fun q hq => by have hq' : q = O2 := hq; omega) H3.out.2.2.2.size)⟩
    clear h4 k4 c1 H3
    go_wp2_with (first | (refine wpList_load_tup (.tmp 5) rfl O2 (goT c f) rfl H4.out.2.1 rfl ?_) | (refine wpList_store_tup (.tmp 4) (.tmp 18) rfl rfl O xz (goT c f) rfl rfl H4.out.1 rfl ?_))
    intro w5 h5 k5
    have b5 : Below w.heap.size w w5 := by have y6 := H0.out.2.2.2.2.2; exact H4.out.2.2.trans (k5.below (fun q hq => by have hq' : q = O := hq; omega) H4.out.2.2.size)
    go_wp2_with fail
    refine bodyPost_ret (results_tup rfl _ _ O _ rfl h5) rfl ?_
    exact ⟨rfl, b5⟩
  · have q4 : (sv == 4) = false := by simpa using h4
    have HGO : Hid (goT c f = x2) := by
      show _ = _
      unfold goT
      rw [HSV.out, q4, if_neg (by decide), HX2.out]
    clear h4
    go_wp2_with (first | (refine wpList_load_tup (.tmp 5) rfl O2 x2 rfl H3.out.2.2.1 rfl ?_) | (refine wpList_store_tup (.tmp 4) (.tmp 18) rfl rfl O xz x2 rfl rfl H3.out.2.1 rfl ?_))
    intro w5 h5 k5
    have b5 : Below w.heap.size w w5 := by have y6 := H0.out.2.2.2.2.2; exact H3.out.2.2.2.trans (k5.below (fun q hq => by have hq' : q = O := hq; omega) H3.out.2.2.2.size)
    go_wp2_with fail
    refine bodyPost_ret (results_tup rfl _ _ O _ rfl h5) rfl ?_
    exact ⟨by rw [HGO.out], b5⟩
/-- a flow's outside port is one of the configuration's, or its own -/
def OkP (c : CF) (f : FN) : Prop := (f.x.sV = 4 ∨ f.x.sV = 6) ∧ (f.x.sV = 4 → c.lo ≤ f.po ∧ f.po ≤ c.hi) ∧ (f.x.sV = 6 → f.po = f.x.sp)
theorem OkP.same {c : CF} {f g : FN} (h : OkP c f) (hx : g.x = f.x) (hp : g.po = f.po) : OkP c g := by unfold OkP at *; rw [hx, hp]; exact h
theorem OkP.turnE {c : CF} {E : List FV} {e : FV} {v : Int} (h : ∀ a ∈ E, OkP c a.n) (he : e ∈ E) : ∀ a ∈ Go.Proofs.YtclpeepnngegaaaDoor.turnE c E e v, OkP c a.n := fun a ha => by
  rcases turn_in ha with h1 | ⟨rfl, _⟩
  · exact h a h1
  · exact (h e he).same rfl rfl
theorem OkP.new {c : CF} {E : List FV} {x : TU} {po st le : Int} (hc : CfOk c) (hk : ckE x = 0) (hp : fpO c E x = some po) : OkP c ⟨x, po, st, le⟩ := by
  have ht := ckE_tp hk
  have h46 : x.sV = 4 ∨ x.sV = 6 := by
    cases h4 : x.sV == 4 with
    | true => exact .inl (by simpa using h4)
    | false => exact .inr (by simpa using tpB_46 ht h4)
  unfold fpO at hp
  refine ⟨h46, fun h4 => ?_, fun h6 => ?_⟩
  · have h4' : x.sV = 4 := h4
    have e6 : (x.sV == 6) = false := by rw [h4']; rfl
    rw [e6, Bool.false_or] at hp
    split at hp
    · rename_i hb
      obtain rfl := Option.some.inj hp
      simp only [Bool.and_eq_true, inR, decide_eq_true_eq] at hb
      exact hb.1
    · have h1 := frF_some hp
      have := hc.hi
      show c.lo ≤ po ∧ po ≤ c.hi
      omega
  · have h6' : x.sV = 6 := h6
    have e6 : (x.sV == 6) = true := by rw [h6']; rfl
    rw [e6, Bool.true_or, if_pos rfl] at hp
    exact (Option.some.inj hp).symm
theorem OkP.tkn {c : CF} {E : List FV} (h : ∀ a ∈ E, OkP c a.n) : ∀ (n : Nat), ∀ a ∈ Go.Proofs.YtclpeepnngegaaaDoor.tkn n E, OkP c a.n
  | 0 => h
  | n + 1 => fun a ha => by
    obtain ⟨e, he, h1⟩ := List.mem_filterMap.1 ha
    unfold tk1 at h1
    split at h1
    · cases h1
    · obtain rfl := Option.some.inj h1
      exact (OkP.tkn h n e he).same rfl rfl
theorem OkP.out {c : CF} {E E' : List FV} {x : TU} {fl : Int} {B : Nat} {er : Int} {y : TU} (hc : CfOk c) (h : ∀ a ∈ E, OkP c a.n) (hR : OutR c E x fl B er y E') : ∀ a ∈ E', OkP c a.n := by
  rcases hR with ⟨_, _, _, rfl⟩ | ⟨_, e, hf, ⟨_, _, _, rfl⟩ | ⟨_, _, _, rfl⟩⟩ | ⟨hk, _, ⟨_, _, _, rfl⟩ | ⟨_, _, _, _, rfl⟩ | ⟨_, _, _, po, P, hp, _, _, rfl⟩⟩
  · exact h
  · exact h
  · exact OkP.turnE h (fF_some hf).1
  · exact h
  · exact h
  · intro a ha
    rcases List.mem_append.1 ha with ha | ha
    · exact h a ha
    · simp only [List.mem_singleton] at ha
      subst ha
      exact OkP.new hc hk hp
theorem OkP.inn {c : CF} {E E' : List FV} {x : TU} {fl er : Int} {y : TU} (h : ∀ a ∈ E, OkP c a.n) (hR : InR c E x fl er y E') : ∀ a ∈ E', OkP c a.n := by
  rcases hR with ⟨_, _, _, rfl⟩ | ⟨_, _, _, _, rfl⟩ | ⟨_, e, hf, ⟨_, _, _, rfl⟩ | ⟨_, _, _, rfl⟩⟩
  · exact h
  · exact h
  · exact h
  · exact OkP.turnE h (awO_mem hf)
theorem OkP.run {c : CF} {E E' : List FV} {s : SV} (hc : CfOk c) (h : ∀ a ∈ E, OkP c a.n) (hR : RunR c E s E') : ∀ a ∈ E', OkP c a.n := by
  rcases hR with ⟨B, er, y, hR⟩ | ⟨x, er, y, hR⟩ | ⟨k, rfl⟩
  · exact OkP.out hc h hR
  · exact OkP.inn h hR
  · exact OkP.tkn h k
/-- two flows that do not go out alike -/
def Sep (f g : FN) : Prop := eqP f.x g.x = false ∧ ¬ (f.x.sV = 4 ∧ g.x.sV = 4 ∧ f.x.pr = g.x.pr ∧ f.po = g.po)
theorem Sep.symm {f g : FN} (h : Sep f g) : Sep g f := ⟨by rw [eqP_comm]; exact h.1, fun ⟨a, b, c, d⟩ => h.2 ⟨b, a, c.symm, d.symm⟩⟩
theorem TA.sep {w : World} {t M N : Nat} {c : CF} {E : List FV} (h : TA w t M N c E) : (E.map FV.n).Pairwise Sep := by
  rw [List.pairwise_map]
  have h1 := h.dj
  have h2 : E.Pairwise (fun a b => isF a = true → isF b = true → eqQ a.kq.p b.kq.p = false) := List.pairwise_filter.1 h.djq
  refine (h1.and h2).imp ?_
  rintro a b ⟨p1, p2⟩
  refine ⟨p1, fun ⟨x1, x2, x3, x4⟩ => ?_⟩
  have e1 : isF a = true := by unfold isF; rw [x1]; rfl
  have e2 : isF b = true := by unfold isF; rw [x2]; rfl
  have e3 := p2 e1 e2
  unfold eqQ at e3
  have e4 : a.kq.p.pr = b.kq.p.pr := x3
  have e5 : a.kq.p.po = b.kq.p.po := x4
  rw [e4, e5] at e3
  simp at e3
theorem dump_sep {w : World} {t M N : Nat} {c : CF} {E : List FV} {S : List FN} (h : TA w t M N c E) (hD : DumpR E S) {i j : Nat} (hij : i < j) {f g : FN} (hf : S[i]? = some f) (hg : S[j]? = some g) : Sep f g := by
  have h1 : S.Pairwise Sep := (hD.1.pairwise_iff (fun {a b} hab => hab.symm)).2 h.sep
  obtain ⟨hi, rfl⟩ := List.getElem?_eq_some_iff.1 hf
  obtain ⟨hj, rfl⟩ := List.getElem?_eq_some_iff.1 hg
  exact List.pairwise_iff_getElem.1 h1 i j hi hj hij
theorem go_ne {c : CF} {f g : FN} (hc : CfOk c) (h : Sep f g) (hf : OkP c f) (hg : OkP c g) : eqP (goT c f) (goT c g) = false := by
  cases he : eqP (goT c f) (goT c g) with
  | false => rfl
  | true =>
    exfalso
    unfold eqP at he
    simp only [Bool.and_eq_true, beq_iff_eq] at he
    obtain ⟨⟨⟨⟨e1, e2, e3⟩, e4⟩, e5⟩, e6⟩ := he
    unfold goT at e1 e2 e3 e4 e5 e6
    rcases hf.1 with h4 | h6
    · have f4 : (f.x.sV == 4) = true := by rw [h4]; rfl
      rcases hg.1 with k4 | k6
      · have g4 : (g.x.sV == 4) = true := by rw [k4]; rfl
        rw [f4, g4, if_pos rfl, if_pos rfl] at e1 e5
        exact h.2 ⟨h4, k4, e1, e5⟩
      · have g4 : (g.x.sV == 4) = false := by rw [k6]; rfl
        rw [f4, g4, if_pos rfl, if_neg (by decide)] at e2
        have e2' : c.oV = g.x.sV := e2
        rw [hc.oV, k6] at e2'
        omega
    · have f4 : (f.x.sV == 4) = false := by rw [h6]; rfl
      rcases hg.1 with k4 | k6
      · have g4 : (g.x.sV == 4) = true := by rw [k4]; rfl
        rw [f4, g4, if_neg (by decide), if_pos rfl] at e2
        have e2' : f.x.sV = c.oV := e2
        rw [hc.oV, h6] at e2'
        omega
      · have g4 : (g.x.sV == 4) = false := by rw [k6]; rfl
        rw [f4, g4, if_neg (by decide), if_neg (by decide)] at e1 e2 e3 e4 e5 e6
        have p1 := hf.2.2 h6
        have p2 := hg.2.2 k6
        have h1 := h.1
        unfold eqP at h1
        have e1' : f.x.pr = g.x.pr := e1
        have e2' : f.x.sV = g.x.sV := e2
        have e3' : same16 f.x.s g.x.s = true := e3
        have e4' : f.x.dV = g.x.dV ∧ same16 f.x.d g.x.d = true := e4
        have e5' : f.po = g.po := e5
        have e6' : f.x.dp = g.x.dp := e6
        rw [p1, p2] at e5'
        rw [e1', e2', e3', e4'.1, e4'.2, e5', e6'] at h1
        simp at h1
end Go.Proofs.YtclpeepnngegaaaDoor
namespace Go.Proofs.YtclpeepnngegaaaDoor
open Go.RowKit Go.Maps

theorem st_lt {w : World} {ss : List SV} {a : Option Addr} {i : Nat} {g off : Nat} (h : ListG 41 stL SV.Wf w a ss) (hi : i < ss.length) (ha : a = some ⟨g, off, none⟩) : g < w.heap.size := by
  obtain ⟨_, g', off', ha', hlt, _⟩ := h.at i ss[i] (List.getElem?_eq_getElem hi)
  rw [ha] at ha'
  simp only [Option.some.injEq, Addr.mk.injEq, and_true] at ha'
  obtain ⟨rfl, _⟩ := ha'
  exact hlt
theorem rng_old {w A A' : World} {g o : Nat} {l : List Value} (h : Below w.heap.size w A) (h' : Below w.heap.size w A') (hg : g < w.heap.size) (r : A.rangeAt g o l) : A'.rangeAt g o l := fun j v hj => by
  rw [← r j v hj]
  exact World.cell?_of_block ((h'.block g hg).trans (h.block g hg).symm)
theorem fl_base {w : World} {base : Nat} {v : Value} {L : List FN} (h : FL w base v L) {q : Nat} (hq : v.ownBlock = some q) : base ≤ q := by
  rcases h.2 with ⟨rfl, _⟩ | ⟨g, cap, cur, rfl, hb, _⟩
  · simp [Value.ownBlock] at hq
  · simp only [Value.ownBlock, Option.some.injEq] at hq
    omega
theorem tb_tkn {t M N : Nat} {E : List FV} : ∀ (n : Nat) (q : Nat), TB t M N (tkn n E) q → TB t M N E q
  | 0, _, h => h
  | n + 1, q, h => by
    refine tb_tkn n q ?_
    rcases h with h | h | h | ⟨a, ha, h⟩
    · exact .inl h
    · exact .inr (.inl h)
    · exact .inr (.inr (.inl h))
    · obtain ⟨e, he, h1⟩ := List.mem_filterMap.1 ha
      exact .inr (.inr (.inr ⟨e, he, by rw [h, (tk1_x h1).2]⟩))
theorem fl_tick {W : World} {t M N : Nat} {c : CF} {E : List FV} {w w' : World} (_ : FT W t M N c E w) {base : Nat} {v : Value} {L : List FN} (h : FL w base v L) (k : Ch (TB t M N E) w w') (hf : ∀ q, TB t M N E q → ∀ g, v.ownBlock = some g → q ≠ g) : FL w' base v L := h.ch k (fun g hg hq => hf g hq g hg rfl)
theorem CfgAt.kt {w w' : World} {O : Nat} {x : CF} (h : CfgAt w O x) (k : Kt w w') : CfgAt w' O x := k.blk O _ _ h (by decide) (by decide)
end Go.Proofs.YtclpeepnngegaaaDoor
namespace Go.Proofs.YtclpeepnngegaaaDoor
open Go.RowKit Go.Maps

def tcs (L : List TU) : List Value := L.flatMap fun r => (tuC r).toList
theorem tuC_len (r : TU) : (tuC r).toList.length = 37 := rfl
theorem tcs_nil : tcs [] = [] := rfl
theorem tcs_app (L K : List TU) : tcs (L ++ K) = tcs L ++ tcs K := by simp [tcs]
theorem tcs_one (r : TU) : tcs [r] = (tuC r).toList := by simp [tcs]
theorem tcs_cons (r : TU) (L : List TU) : tcs (r :: L) = (tuC r).toList ++ tcs L := by simp [tcs]
theorem tcs_len (L : List TU) : (tcs L).length = L.length * 37 := by
  induction L with
  | nil => rfl
  | cons r L ih => rw [tcs_cons, List.length_append, ih, tuC_len]; simp; omega
theorem tcs_get (L : List TU) (i : Nat) (r : TU) (h : L[i]? = some r) (j : Nat) (hj : j < 37) : (tcs L)[i * 37 + j]? = (tuC r).toList[j]? := by
  induction L generalizing i with
  | nil => simp at h
  | cons s L ih =>
    rw [tcs_cons]
    cases i with
    | zero =>
      simp only [List.getElem?_cons_zero, Option.some.injEq] at h
      subst h
      rw [Nat.zero_mul, Nat.zero_add, List.getElem?_append_left (by rw [tuC_len]; exact hj)]
    | succ i =>
      simp only [List.getElem?_cons_succ] at h
      rw [List.getElem?_append_right (by rw [tuC_len]; omega), tuC_len, show (i + 1) * 37 + j - 37 = i * 37 + j by omega]
      exact ih i h
theorem tuC_one (r : TU) : ∀ u ∈ (tuC r).toList, u.oneCell' = true := by simp [tuC, Value.oneCell']
def TL (w : World) (base : Nat) (v : Value) (L : List TU) : Prop := w.ownsRow base 34 37 v L.length (tcs L)
theorem TL.nil (w : World) (base : Nat) : TL w base (.slice none 0 0) [] := World.ownsRow_nil _ _ _ _
theorem TL.ch {S : Nat → Prop} {a b : World} {base : Nat} {v : Value} {L : List TU} (h : TL a base v L) (k : Ch S a b) (hS : ∀ g, v.ownBlock = some g → ¬ S g) : TL b base v L := k.owns h hS
theorem TL.below {a b : World} {base : Nat} {v : Value} {L : List TU} (h : TL a base v L) (k : Below a.heap.size a b) : TL b base v L := h.ch (Ch.ofBelow (S := fun _ => False) k) (fun _ _ => id)
theorem TL.at {w : World} {base : Nat} {v : Value} {L : List TU} (h : TL w base v L) (i : Nat) (r : TU) (hr : L[i]? = some r) : ∃ g cap, v = .slice (some ⟨g, 0, none⟩) L.length cap ∧ base ≤ g ∧ g < w.heap.size ∧ w.rangeAt g (i * 37) (tuC r).toList := by
  have hi := (List.getElem?_eq_some_iff.1 hr).1
  rcases h.2 with ⟨rfl, h0⟩ | ⟨g, cap, cur, rfl, hb, hg, hnc, hcm, hcs, ht⟩
  · omega
  · refine ⟨g, cap, rfl, hb, (Array.getElem?_eq_some_iff.1 hg).1, fun j u hj => ?_⟩
    have hj' : j < 37 := by have := (List.getElem?_eq_some_iff.1 hj).1; rwa [tuC_len] at this
    have hc := h.cells rfl (i * 37 + j) u (by rw [tcs_get L i r hr j hj']; exact hj)
    rwa [Addr.add_lit, Nat.zero_add] at hc
theorem run_bs1t (r : TU) (w : World) : (Instr.buildSlice 32 1 #[(0, .agg (tuC r))]).run Tryd.prog w = .ok (.slice (some ⟨w.heap.size, 0, none⟩) 1 1) (w.alloc (.cells (tuC r) 34)) := by kernel_rfl
theorem wpList_bs1t {ops : Array Oper} {rest : List Oper} {o : Oper} {a : Act} {w : World} {Q : Exit → Act → World → Prop} (x : Operand) (ho : o.op = .buildSlice 32 1 #[(0, x)]) (r : TU) (hx : a.eval x = .agg (tuC r)) (hw : Region.wanted o (yielded ops a.tmps) = true)
    (h : wpList Tryd.prog ops Q rest (a.put o.dst (.slice (some ⟨w.heap.size, 0, none⟩) 1 1)) (w.alloc (.cells (tuC r) 34))) : wpList Tryd.prog ops Q (o :: rest) a w := by
  refine wpList_step fun K hK => ?_
  rw [if_pos hw]
  unfold Oper.wp execOp
  simp only [ho, Sem.run_bind, List.map_toArray, List.map_cons, List.map_nil, hx, run_bs1t r w, Result.andThen_ok]
  exact hK _ _ h
theorem Tryd.infoTu : ∃ i z, Tryd.prog.info? 34 = some i ∧ i.zero = some z ∧ i.size = 37 ∧ z.cells.size = 37 ∧ i.bytes ≤ 1000 := by
  have h : (Tryd.prog.info? 34).any (fun i => i.zero.any (fun z => i.size == 37 && z.cells.size == 37 && decide (i.bytes ≤ 1000))) = true := by kernel_rfl
  cases hi : Tryd.prog.info? 34 with
  | none => rw [hi] at h; simp at h
  | some i =>
    rw [hi] at h
    cases hz : i.zero with
    | none => rw [Option.any_some, hz] at h; simp at h
    | some z =>
      rw [Option.any_some, hz, Option.any_some] at h
      simp only [Bool.and_eq_true, beq_iff_eq, decide_eq_true_eq] at h
      exact ⟨i, z, rfl, hz, h.1.1, h.1.2, h.2⟩
/-- append of one route that lies in a box of its own -/
theorem wpList_app1t {ops : Array Oper} {rest : List Oper} {o : Oper} {a : Act} {w : World} {Q : Exit → Act → World → Prop} (hgd : o.guard = none) (s x : Operand) (ho : o.op = .call { callee := .builtin .append, args := #[s, x], argTypes := #[32, 32] })
    (base : Nat) (v : Value) (L : List TU) (hs : a.eval s = v) (hown : TL w base v L) (B : Nat) (r : TU) (hx : a.eval x = .slice (some ⟨B, 0, none⟩) 1 1) (hB : TupAt w B r) (hL : L.length ≤ 100000) (hbase : base ≤ w.heap.size)
    (h : ∀ v' w', TL w' base v' (L ++ [r]) → w.grownBy w' v.ownBlock → (v'.ownBlock = v.ownBlock ∨ v'.ownBlock = some w.heap.size) → wpList Tryd.prog ops Q rest (a.put o.dst v') w') : wpList Tryd.prog ops Q (o :: rest) a w := by
  obtain ⟨i, z, hi, hz0, hz1, hz2, hz3⟩ := Tryd.infoTu
  refine wpList_append_own_at w hgd s x 32 ho base 34 i z 37 i.bytes Tryd.underlying32 hi hz0 hz1 rfl hz2 (by decide) v L.length (tcs L) hs hown ⟨B, 0, none⟩ 1 1 (tuC r).toList hx (by rw [tuC_len]) ?_ (tuC_one r) (by unfold maxLen; omega) ?_ hbase ?_
  · intro j u hj
    rw [Addr.add_lit, Nat.zero_add, hB.cell j]
    simpa using hj
  · calc (L.length + 1) * i.bytes ≤ 100001 * 1000 := Nat.mul_le_mul (by omega) hz3
      _ ≤ _ := by decide
  · intro v' w' h1 h2 _ h4
    refine h v' w' ?_ h2 h4
    show w'.ownsRow base 34 37 v' (L ++ [r]).length (tcs (L ++ [r]))
    rw [tcs_app, tcs_one, List.length_append]
    exact h1
theorem TL.form {w : World} {base : Nat} {v : Value} {L : List TU} (h : TL w base v L) : ∃ va vc, v = .slice va L.length vc := by
  rcases h.2 with ⟨rfl, h0⟩ | ⟨g, cap, cur, rfl, _⟩
  · exact ⟨none, 0, by rw [h0]⟩
  · exact ⟨_, _, rfl⟩
theorem TL.cells {w : World} {base : Nat} {v : Value} {L : List TU} (h : TL w base v L) : ∀ g, v.ownBlock = some g → base ≤ g ∧ g < w.heap.size ∧ ∃ c, w.heap[g]? = some (.cells c 34 (0, 0)) := by
  intro g hg
  rcases h.2 with ⟨rfl, _⟩ | ⟨g', cap, cur, rfl, hb, hh, _⟩
  · simp [Value.ownBlock] at hg
  · simp [Value.ownBlock] at hg; subst hg; exact ⟨hb, (Array.getElem?_eq_some_iff.1 hh).1, cur, hh⟩
theorem TL.mono {w : World} {b b' : Nat} {v : Value} {L : List TU} (h : TL w b v L) (hb : b' ≤ b) : TL w b' v L := by
  refine ⟨h.1, ?_⟩
  rcases h.2 with h2 | ⟨g, cap, cur, rfl, hg, r⟩
  · exact .inl h2
  · exact .inr ⟨g, cap, cur, rfl, Nat.le_trans hb hg, r⟩
theorem TL.of_block {w w' : World} {base : Nat} {v : Value} {L : List TU} (h : TL w base v L) (k : ∀ g o, v.ownBlock = some g → w.heap[g]? = some o → w'.heap[g]? = some o) : TL w' base v L := by
  refine ⟨h.1, ?_⟩
  rcases h.2 with hn | ⟨g, cap, cur, rfl, hb, hgg, rest⟩
  · exact .inl hn
  · exact .inr ⟨g, cap, cur, rfl, hb, k g _ rfl hgg, rest⟩

theorem low5 (fl : Int) (m : Nat) (hm : m &&& 31 = m) : bits .and .i64 fl (m : Int) = bits .and .i64 (fl % 32) (m : Int) := by
  have key : (BitVec.ofInt 64 fl &&& BitVec.ofInt 64 (m : Int)).toNat = (BitVec.ofInt 64 (fl % 32) &&& BitVec.ofInt 64 (m : Int)).toNat := by
    rw [BitVec.toNat_and, BitVec.toNat_and]
    have hlt : m < 32 := by
      have h := Nat.and_two_pow_sub_one_eq_mod m 5
      have h2 : m &&& 31 = m % 32 := h
      rw [hm] at h2
      omega
    have e1 : (BitVec.ofInt 64 (m : Int)).toNat = m := by
      rw [BitVec.toNat_ofInt]
      omega
    rw [e1]
    have e2 : ∀ A : Nat, A &&& m = (A % 32) &&& m := fun A => by
      have h := Nat.and_two_pow_sub_one_eq_mod A 5
      have h2 : A &&& 31 = A % 32 := h
      rw [← h2, Nat.and_assoc, Nat.and_comm 31 m, hm]
    rw [e2 (BitVec.ofInt 64 fl).toNat, e2 (BitVec.ofInt 64 (fl % 32)).toNat]
    congr 1
    rw [BitVec.toNat_ofInt, BitVec.toNat_ofInt]
    omega
  show IntKind.i64.wrap ((BitVec.ofInt 64 fl &&& BitVec.ofInt 64 (m : Int)).toNat : Nat) = IntKind.i64.wrap ((BitVec.ofInt 64 (fl % 32) &&& BitVec.ofInt 64 (m : Int)).toNat : Nat)
  rw [key]
theorem syn_small : ∀ r : Nat, r < 32 → bits .and .i64 (r : Int) 7 = 2 → bits .and .i64 (r : Int) 16 = 0 → sgN 6 (r : Int) = 1 := by decide +kernel
theorem syn_any {fl : Int} (h7 : bits .and .i64 fl 7 = 2) (h16 : bits .and .i64 fl 16 = 0) : sgN 6 fl = 1 := by
  have e : sgN 6 fl = sgN 6 (fl % 32) := by
    unfold sgN hasB
    have a4 := low5 fl 4 (by decide)
    have a3 := low5 fl 3 (by decide)
    have a18 := low5 fl 18 (by decide)
    have a2 := low5 fl 2 (by decide)
    have a1 := low5 fl 1 (by decide)
    simp only [Int.cast_ofNat_Int] at a4 a3 a18 a2 a1
    rw [a4, a3, a18, a2, a1]
  have b7 := low5 fl 7 (by decide)
  have b16 := low5 fl 16 (by decide)
  simp only [Int.cast_ofNat_Int] at b7 b16
  rw [b7] at h7
  rw [b16] at h16
  rw [e]
  obtain ⟨r, hr⟩ : ∃ r : Nat, fl % 32 = (r : Int) := ⟨(fl % 32).toNat, by omega⟩
  rw [hr] at h7 h16 ⊢
  exact syn_small r (by omega) h7 h16
theorem sg_other {pr fl : Int} (h : pr ≠ 6) : sgN pr fl = 6 := by
  unfold sgN
  rw [if_neg (by simpa using h)]
theorem sg_back : sgN 6 18 = 2 := by decide +kernel
theorem oT_6 : ∀ st : Nat, st < 8 → oT (st : Int) 6 ≠ 0 → oT (st : Int) 6 = 7 := by decide
theorem oT_1 : ∀ st : Nat, st < 8 → oT (st : Int) 1 ≠ 0 → (oT (st : Int) 1 = 1 ∨ oT (st : Int) 1 = 2) := by decide
/-- what holds of every flow of a table -/
def OkB (c : CF) (f : FN) : Prop := OkP c f ∧ ckE f.x = 0
theorem OkB.same {c : CF} {f g : FN} (h : OkB c f) (hx : g.x = f.x) (hp : g.po = f.po) : OkB c g := ⟨h.1.same hx hp, by rw [hx]; exact h.2⟩
theorem OkB.turnE {c : CF} {E : List FV} {e : FV} {v : Int} (h : ∀ a : FV, a ∈ E → OkB c a.n) (he : e ∈ E) : ∀ a : FV, a ∈ Go.Proofs.YtclpeepnngegaaaDoor.turnE c E e v → OkB c a.n := fun a ha => by
  rcases turn_in ha with h1 | ⟨rfl, _⟩
  · exact h a h1
  · exact (h e he).same rfl rfl
theorem OkB.tkn {c : CF} {E : List FV} (h : ∀ a : FV, a ∈ E → OkB c a.n) : ∀ (n : Nat), ∀ a : FV, a ∈ Go.Proofs.YtclpeepnngegaaaDoor.tkn n E → OkB c a.n
  | 0 => h
  | n + 1 => fun a ha => by
    obtain ⟨e, he, h1⟩ := List.mem_filterMap.1 ha
    unfold tk1 at h1
    split at h1
    · cases h1
    · obtain rfl := Option.some.inj h1
      exact (OkB.tkn h n e he).same rfl rfl
theorem OkB.out {c : CF} {E E' : List FV} {x : TU} {fl : Int} {B : Nat} {er : Int} {y : TU} (hc : CfOk c) (h : ∀ a : FV, a ∈ E → OkB c a.n) (hR : OutR c E x fl B er y E') : ∀ a : FV, a ∈ E' → OkB c a.n := by
  rcases hR with ⟨_, _, _, rfl⟩ | ⟨_, e, hf, ⟨_, _, _, rfl⟩ | ⟨_, _, _, rfl⟩⟩ | ⟨hk, _, ⟨_, _, _, rfl⟩ | ⟨_, _, _, _, rfl⟩ | ⟨_, _, _, po, P, hp, _, _, rfl⟩⟩
  · exact h
  · exact h
  · exact OkB.turnE h (fF_some hf).1
  · exact h
  · exact h
  · intro a ha
    rcases List.mem_append.1 ha with ha | ha
    · exact h a ha
    · simp only [List.mem_singleton] at ha
      subst ha
      exact ⟨OkP.new hc hk hp, hk⟩
theorem OkB.inn {c : CF} {E E' : List FV} {x : TU} {fl er : Int} {y : TU} (h : ∀ a : FV, a ∈ E → OkB c a.n) (hR : InR c E x fl er y E') : ∀ a : FV, a ∈ E' → OkB c a.n := by
  rcases hR with ⟨_, _, _, rfl⟩ | ⟨_, _, _, _, rfl⟩ | ⟨_, e, hf, ⟨_, _, _, rfl⟩ | ⟨_, _, _, rfl⟩⟩
  · exact h
  · exact h
  · exact h
  · exact OkB.turnE h (awO_mem hf)
theorem eqP_rev {a b : TU} (h : eqP a b = true) : eqP a.rev b.rev = true := by
  unfold eqP at h ⊢
  simp only [Bool.and_eq_true, beq_iff_eq] at h
  obtain ⟨⟨⟨⟨e1, e2, e3⟩, e4, e5⟩, e6⟩, e7⟩ := h
  show (a.pr == b.pr && (a.dV == b.dV && same16 a.d b.d) && (a.sV == b.sV && same16 a.s b.s) && a.dp == b.dp && a.sp == b.sp) = true
  rw [e1, e2, e3, e4, e5, e6, e7]
  simp
/-- each flow's tuple has gone out -/
def Gn (G : List TU) (E : List FV) : Prop := ∀ a : FV, a ∈ E → ∃ x ∈ G, eqP x a.n.x = true
theorem Gn.turnE {c : CF} {G : List TU} {E : List FV} {e : FV} {v : Int} (h : Gn G E) (he : e ∈ E) : Gn G (Go.Proofs.YtclpeepnngegaaaDoor.turnE c E e v) := fun a ha => by
  rcases turn_in ha with h1 | ⟨rfl, _⟩
  · exact h a h1
  · exact h e he
theorem Gn.tkn {G : List TU} {E : List FV} (h : Gn G E) : ∀ n : Nat, Gn G (Go.Proofs.YtclpeepnngegaaaDoor.tkn n E)
  | 0 => h
  | n + 1 => fun a ha => by
    obtain ⟨e, he, h1⟩ := List.mem_filterMap.1 ha
    rw [(tk1_x h1).1]
    exact Gn.tkn h n e he
theorem out_no {c : CF} {E E' : List FV} {x : TU} {fl : Int} {B : Nat} {er : Int} {y : TU} (hR : OutR c E x fl B er y E') (he : er ≠ 0) : y = xz ∧ E' = E := by
  rcases hR with ⟨_, _, h1, h2⟩ | ⟨_, e, hf, ⟨_, _, h1, h2⟩ | ⟨_, h0, _, _⟩⟩ | ⟨_, _, ⟨_, _, h1, h2⟩ | ⟨_, _, _, h1, h2⟩ | ⟨_, _, h0, _⟩⟩
  · exact ⟨h1, h2⟩
  · exact ⟨h1, h2⟩
  · exact absurd h0 he
  · exact ⟨h1, h2⟩
  · exact ⟨h1, h2⟩
  · exact absurd h0 he
theorem Gn.out {c : CF} {G : List TU} {E E' : List FV} {x : TU} {fl : Int} {B : Nat} {er : Int} {y : TU} (h : Gn G E) (hR : OutR c E x fl B er y E') : Gn (G ++ [x]) E' := by
  have hup : ∀ {F : List FV}, Gn G F → Gn (G ++ [x]) F := fun hF a ha => by
    obtain ⟨z, hz, e⟩ := hF a ha
    exact ⟨z, List.mem_append_left _ hz, e⟩
  rcases hR with ⟨_, _, _, rfl⟩ | ⟨_, e, hf, ⟨_, _, _, rfl⟩ | ⟨_, _, _, rfl⟩⟩ | ⟨_, _, ⟨_, _, _, rfl⟩ | ⟨_, _, _, _, rfl⟩ | ⟨_, _, _, po, P, _, _, _, rfl⟩⟩
  · exact hup h
  · exact hup h
  · exact hup (h.turnE (fF_some hf).1)
  · exact hup h
  · exact hup h
  · intro a ha
    rcases List.mem_append.1 ha with ha | ha
    · exact hup h a ha
    · simp only [List.mem_singleton] at ha
      subst ha
      exact ⟨x, by simp, eqP_refl _⟩
/-- what In does, and what it answers -/
theorem Gn.inn {c : CF} {G : List TU} {E E' : List FV} {x : TU} {fl er : Int} {y : TU} (h : Gn G E) (hR : InR c E x fl er y E') : Gn G E' ∧ E'.length ≤ E.length ∧ (er ≠ 0 → y = xz ∧ E' = E) ∧ (er = 0 → ∃ z ∈ G, eqP z.rev y = true) := by
  rcases hR with ⟨h0, h1, h2, rfl⟩ | ⟨_, _, h1, h2, rfl⟩ | ⟨_, e, hf, ⟨_, h1, h2, rfl⟩ | ⟨_, h1, h2, rfl⟩⟩
  · exact ⟨h, Nat.le_refl _, fun _ => ⟨h2, rfl⟩, fun e => absurd (h1.symm.trans e) h0⟩
  · exact ⟨h, Nat.le_refl _, fun _ => ⟨h2, rfl⟩, fun e => by omega⟩
  · exact ⟨h, Nat.le_refl _, fun _ => ⟨h2, rfl⟩, fun e => by omega⟩
  · have he := awO_mem hf
    refine ⟨h.turnE he, turn_len, fun e0 => absurd h1 e0, fun _ => ?_⟩
    obtain ⟨z, hz, ez⟩ := h e he
    refine ⟨z, hz, ?_⟩
    rw [h2]
    exact eqP_rev ez
/-- what has just gone out: its flow, and what is answered to the answer -/
theorem out_in {c : CF} {E E' E2 : List FV} {x y z : TU} {fl er : Int} {B : Nat} (hc : CfOk c) (hv : vld c.oV c.o = true) (dj : Dj E') (djq : (E'.filter isF).Pairwise (fun a b => eqQ a.kq.p b.kq.p = false)) (hst : ∀ e ∈ E, StOk e) (hB : ∀ a : FV, a ∈ E' → OkB c a.n) (hR : OutR c E x fl B 0 y E') (hp : x.pr ≠ 6 ∨ sgN x.pr fl = 1) (hI : InR c E' y.rev 18 er z E2) : er = 0 ∧ eqP z x.rev = true := by
  -- the flow
  have hflow : ∃ e ∈ E', eqP e.n.x x = true ∧ y = ouT c e.n ∧ (x.pr ≠ 6 → e.n.st = 7) ∧ (x.pr = 6 → e.n.st = 1 ∨ e.n.st = 2) := by
    have hsg : ∀ st : Int, 0 ≤ st ∧ st ≤ 7 → oT st (sgN x.pr fl) ≠ 0 → (x.pr ≠ 6 → oT st (sgN x.pr fl) = 7) ∧ (x.pr = 6 → oT st (sgN x.pr fl) = 1 ∨ oT st (sgN x.pr fl) = 2) := by
      intro st hst h0
      obtain ⟨n, hn⟩ : ∃ n : Nat, st = (n : Int) := ⟨st.toNat, by omega⟩
      subst hn
      by_cases h6 : x.pr = 6
      · have h1 : sgN x.pr fl = 1 := hp.resolve_left (fun h => h h6)
        rw [h1] at h0 ⊢
        exact ⟨fun h => absurd h6 h, fun _ => oT_1 n (by omega) h0⟩
      · rw [sg_other h6] at h0 ⊢
        exact ⟨fun _ => oT_6 n (by omega) h0, fun h => absurd h h6⟩
    rcases hR with ⟨h0, h1, _, _⟩ | ⟨_, e, hf, ⟨_, h1, _, _⟩ | ⟨hv0, _, rfl, rfl⟩⟩ | ⟨_, _, ⟨_, h1, _, _⟩ | ⟨_, h0, h1, _, _⟩ | ⟨hv0, _, _, po, P, _, _, rfl, rfl⟩⟩
    · exact absurd h1.symm h0
    · omega
    · obtain ⟨he, hx⟩ := fF_some hf
      have hs := hst e he
      obtain ⟨s1, s2⟩ := hsg e.n.st ⟨by have := hs.lo; omega, hs.hi⟩ hv0
      have hm : oT e.n.st (sgN x.pr fl) ≠ -1 := by
        by_cases h6 : x.pr = 6
        · rcases s2 h6 with h | h <;> omega
        · have := s1 h6; omega
      refine ⟨e.turn c (oT e.n.st (sgN x.pr fl)), ?_, hx, rfl, s1, s2⟩
      unfold turnE
      rw [if_neg (by simpa using hm)]
      unfold updF
      exact List.mem_map.2 ⟨e, he, by rw [eqP_refl]; rfl⟩
    · omega
    · exact absurd h1.symm h0
    · obtain ⟨s1, s2⟩ := hsg 0 (by omega) hv0
      exact ⟨_, List.mem_append_right E (List.mem_singleton_self _), eqP_refl _, ouT_same c rfl rfl, s1, s2⟩
  obtain ⟨e, he, hx, hy, st7, st12⟩ := hflow
  have hok := hB e he
  have hpr : e.n.x.pr = x.pr := by
    unfold eqP at hx
    simp only [Bool.and_eq_true, beq_iff_eq] at hx
    exact hx.1.1.1.1
  have hcfh := hc.hi
  have hclo := hc.lo
  have hctp := hc.tp
  have htp := ckE_tp hok.2
  -- its answer may be, and finds it
  have hck : ckE y.rev = 0 ∧ awO c E' y.rev = some e ∧ y.rev.pr = x.pr := by
    have hck0 := hok.2
    unfold ckE at hck0
    rw [htp, if_pos rfl] at hck0
    have hpb : (!(e.n.x.pr == 6) && !(e.n.x.pr == 17) && !(ecB e.n.x)) = false := by
      cases hb : (!(e.n.x.pr == 6) && !(e.n.x.pr == 17) && !(ecB e.n.x)) with
      | false => rfl
      | true => rw [hb, if_pos rfl] at hck0; omega
    have htp' := htp
    unfold tpB at htp'
    simp only [Bool.and_eq_true, beq_iff_eq] at htp'
    obtain ⟨⟨⟨⟨v1, v2⟩, v3⟩, v4⟩, v5⟩ := htp'
    rcases hok.1.1 with h4 | h6
    · have h4' : (e.n.x.sV == 4) = true := by rw [h4]; rfl
      have hy4 : y = { e.n.x with sV := c.oV, s := c.o, sp := e.n.po } := by rw [hy]; unfold ouT; rw [h4', if_pos rfl]
      have hpo := hok.1.2.1 h4
      subst hy4
      refine ⟨?_, ?_, hpr⟩
      · have ht : tpB (TU.rev { e.n.x with sV := c.oV, s := c.o, sp := e.n.po }) = true := by
          show (vld e.n.x.dV e.n.x.d && vld c.oV c.o && e.n.x.dV == c.oV && inR e.n.x.dp 0 65535 && inR e.n.po 0 65535) = true
          have e1 : (e.n.x.dV == c.oV) = true := by rw [hc.oV, ← v3, h4]; rfl
          have e2 : inR e.n.po 0 65535 = true := by unfold inR; simp only [Bool.and_eq_true, decide_eq_true_eq]; omega
          rw [v2, hv, e1, v5, e2]
          rfl
        unfold ckE
        rw [ht, if_pos rfl]
        have e3 : (!((TU.rev { e.n.x with sV := c.oV, s := c.o, sp := e.n.po }).pr == 6) && !((TU.rev { e.n.x with sV := c.oV, s := c.o, sp := e.n.po }).pr == 17) && !(ecB (TU.rev { e.n.x with sV := c.oV, s := c.o, sp := e.n.po }))) = false := by
          rw [← hpb]
          show (!(e.n.x.pr == 6) && !(e.n.x.pr == 17) && !((e.n.x.pr == 1 && e.n.x.dV == 4) || (e.n.x.pr == 58 && e.n.x.dV == 6))) = (!(e.n.x.pr == 6) && !(e.n.x.pr == 17) && !((e.n.x.pr == 1 && e.n.x.sV == 4) || (e.n.x.pr == 58 && e.n.x.sV == 6)))
          rw [v3]
        rw [e3, if_neg (by decide)]
      · unfold awO
        have e1 : ((TU.rev { e.n.x with sV := c.oV, s := c.o, sp := e.n.po }).dV == 6) = false := by show (c.oV == 6) = false; rw [hc.oV]; rfl
        rw [e1, if_neg (by decide)]
        have e2 : fQ E' ⟨(TU.rev { e.n.x with sV := c.oV, s := c.o, sp := e.n.po }).pr, (TU.rev { e.n.x with sV := c.oV, s := c.o, sp := e.n.po }).dp⟩ = some e := fQ_mem djq he h4' (by unfold eqQ; show (e.n.x.pr == e.n.x.pr && e.n.po == e.n.po) = true; simp)
        rw [e2, Option.bind_some]
        have e3 : ouT c e.n = (TU.rev { e.n.x with sV := c.oV, s := c.o, sp := e.n.po }).rev := by unfold ouT; rw [h4', if_pos rfl]; rfl
        rw [← e3, eqP_refl, if_pos rfl]
    · have h6' : (e.n.x.sV == 4) = false := by rw [h6]; rfl
      have hy6 : y = e.n.x := by rw [hy]; unfold ouT; rw [h6', if_neg (by decide)]
      subst hy6
      refine ⟨?_, ?_, hpr⟩
      · have ht : tpB e.n.x.rev = true := by
          show (vld e.n.x.dV e.n.x.d && vld e.n.x.sV e.n.x.s && e.n.x.dV == e.n.x.sV && inR e.n.x.dp 0 65535 && inR e.n.x.sp 0 65535) = true
          have e1 : (e.n.x.dV == e.n.x.sV) = true := by rw [v3]; simp
          rw [v1, v2, e1, v4, v5]
          rfl
        unfold ckE
        rw [ht, if_pos rfl]
        have e3 : (!(e.n.x.rev.pr == 6) && !(e.n.x.rev.pr == 17) && !(ecB e.n.x.rev)) = false := by
          rw [← hpb]
          show (!(e.n.x.pr == 6) && !(e.n.x.pr == 17) && !((e.n.x.pr == 1 && e.n.x.dV == 4) || (e.n.x.pr == 58 && e.n.x.dV == 6))) = (!(e.n.x.pr == 6) && !(e.n.x.pr == 17) && !((e.n.x.pr == 1 && e.n.x.sV == 4) || (e.n.x.pr == 58 && e.n.x.sV == 6)))
          rw [v3]
        rw [e3, if_neg (by decide)]
      · unfold awO
        have e1 : (e.n.x.rev.dV == 6) = true := by show (e.n.x.sV == 6) = true; rw [h6]; rfl
        rw [e1, if_pos rfl]
        exact fF_mem dj he (eqP_refl _)
  have hit : iT e.n.st (sgN y.rev.pr 18) ≠ 0 := by
    rw [hck.2.2]
    by_cases h6 : x.pr = 6
    · rw [h6, sg_back]
      rcases st12 h6 with h | h <;> rw [h] <;> decide
    · rw [sg_other h6, st7 h6]
      decide
  rcases hI with ⟨h0, _⟩ | ⟨_, h0, _⟩ | ⟨_, e', h0, ⟨h1, _⟩ | ⟨_, h1, h2, _⟩⟩
  · exact absurd hck.1 h0
  · rw [hck.2.1] at h0; cases h0
  · rw [hck.2.1] at h0
    obtain rfl := Option.some.inj h0
    exact absurd h1 hit
  · rw [hck.2.1] at h0
    obtain rfl := Option.some.inj h0
    exact ⟨h1, by rw [h2]; exact eqP_rev hx⟩
theorem cf_vld {c : CF} (h : cfB c = true) : vld c.oV c.o = true := by
  unfold cfB at h
  simp only [Bool.and_eq_true, Bool.or_eq_true, beq_iff_eq] at h
  have h1 := h.2.1.1.1.2
  cases hb : vld c.oV c.o with
  | true => rfl
  | false =>
    unfold clsA at h1
    rw [hb, if_neg (by decide)] at h1
    rcases h1 with h1 | h1 <;> omega
end Go.Proofs.YtclpeepnngegaaaDoor
