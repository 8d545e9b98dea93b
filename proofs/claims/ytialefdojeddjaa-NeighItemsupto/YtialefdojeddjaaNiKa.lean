/-
  Layer 15: the statements' asking.
-/
/-
  Layer 15: the caller's book in memory; place.
-/
/-
  Layer 15: the caller's book: row.
-/
/-
  Layer 15: how neighbours are being asked, by the cache and by the caller's book.
-/
/-
  Layer 15: a tick by the caller's book: what is due.
-/
/-
  Layer 15: the caller's book under way.
-/
/-
  Layer 15: a cache and the caller's book beside one another.
-/
/-
  Layer 15: what waits, by the cache and by the caller's book.
-/
/-
  Layer 15: weirlaw15.waiting: how many wait by the book.
-/
/-
  Layer 15: the caller's book with its items, beside the cache.
-/
/-
  Layer 15: a Tick's lost items by the book, under way.
-/
import Derived.Test.YtialefdojeddjaaNgLess
import Derived.Test.YtialefdojeddjaaNrFn2
import Derived.Test.YtialefdojeddjaaNrFn4
import Derived.Deep.CutBlock
import Derived.Test.YtialefdojeddjaaNrP2
import Derived.Test.YtialefdojeddjaaNgOp
import Derived.Test.YtialefdojeddjaaHPair
namespace Go.Proofs.Ytialefdojeddjaa
open Go.RowKit Go.Maps

def akB (E : List EV) (k : KV) : Bool := (fE E k).any (fun e => e.n.st == 1 || e.n.st == 4)
set_option maxHeartbeats 3200000 in
set_option maxRecDepth 100000 in
theorem asking_any {W0 : World} {t M : Nat} {c : CF} {E : List EV} {w : World} (h : LSt W0 t M c E w) (k : KV) (hk : k.Wf) : Calls Try.prog 26 #[.pointer (some ⟨t, 0, none⟩), .int .i64 k.pt, .agg (ipCells k.V k.x)] w fun r w' => r = .returned (.bool (akB E k)) ∧ LSt W0 t M c E w' ∧ Below w.heap.size w w' := by
  have hb := ipr_new w k.V k.x
  have bel : Below w.heap.size w (w.alloc (.cells (ipCells k.V k.x) 31)) := (Below.refl _ _).alloc (Nat.le_refl _) _
  obtain ⟨CX, hC⟩ : ∃ C, C = ipCells k.V k.x := ⟨_, rfl⟩
  obtain ⟨W, hW⟩ : ∃ W, W = w.alloc (.cells (ipCells k.V k.x) 31) := ⟨_, rfl⟩
  rw [← hW] at hb bel
  obtain ⟨B, hB⟩ : ∃ B, B = w.heap.size := ⟨_, rfl⟩
  rw [← hB] at hb
  have HBX : Hid (IprAt W B k.V k.x ∧ Below w.heap.size w W) := ⟨hb, bel⟩
  rw [← hC] at hW ⊢
  have HOX : Hid (w.heap.size = B) := hB.symm
  have HWX : Hid (w.alloc (.cells CX 31) = W) := hW.symm
  have QG : Hid _ := (h.below bel).get k hk
  obtain ⟨bb, hbb⟩ : ∃ bb, bb = akB E k := ⟨_, rfl⟩
  rw [← hbb]
  have HBB : Hid (bb = akB E k) := hbb
  clear hb hW hB hC bel h hbb
  go_enter Try.func26, Try.ntmps26
  go_upto_region 1 with fail
  rw [HOX.out, HWX.out]
  go_wp2_with (first | (refine wpList_load_ipr (.tmp 5) rfl B k.V k.x rfl HBX.out.1 rfl ?_))
  refine Calls.mono QG.out ?_
  rintro r w1 ⟨rfl, hL, b1⟩
  obtain ⟨nb, hnb⟩ : ∃ nb, nb = gtN E k := ⟨_, rfl⟩
  obtain ⟨is, his⟩ : ∃ is, is = (fE E k).isSome := ⟨_, rfl⟩
  rw [← hnb, ← his]
  have H1 : Hid (LSt W0 t M c E w1 ∧ Below w.heap.size w w1) := ⟨hL, bthen HBX.out.2 b1⟩
  have HV : Hid (nb = gtN E k ∧ is = (fE E k).isSome) := ⟨hnb, his⟩
  clear hL b1 QG HBX HWX hnb his
  go_wp2_with (first | (refine wpList_alloc_nbr rfl rfl ?_) | (refine wpList_store_nbr (.tmp 7) (.tmp 14) rfl rfl w1.heap.size nz nb rfl rfl (nbr_new w1 nz) rfl ?_))
  intro w2 h2 k2
  have b2 : Below w1.heap.size w1 w2 := boxed_below k2 (fun q e => by have e' : q = w1.heap.size := e; omega)
  obtain ⟨O7, hO7⟩ : ∃ O, O = w1.heap.size := ⟨_, rfl⟩
  rw [← hO7] at h2 ⊢
  have H2 : Hid (LSt W0 t M c E w2 ∧ Below w.heap.size w w2) := ⟨H1.out.1.below b2, bthen H1.out.2 b2⟩
  have c24 : w2.cell? ⟨O7, 24, none⟩ = some (.int .i64 nb.st) := h2.cell 24
  clear h2 k2 b2 hO7 H1
  go_upto_region 2 with fail
  cases his : is with
  | false =>
    subst his
    have HR : Hid (bb = false) := by
      have h := HV.out
      show bb = false
      rw [HBB.out]
      unfold akB
      cases hf : fE E k with
      | none => rfl
      | some e => rw [hf] at h; cases h.2
    go_wp2_with fail
    go_ret
    exact ⟨by rw [HR.out]; rfl, H2.out.1, H2.out.2⟩
  | true =>
    subst his
    have HR : Hid (bb = (nb.st == 1 || nb.st == 4)) := by
      have h := HV.out
      show bb = _
      rw [HBB.out, h.1]
      unfold akB gtN
      cases hf : fE E k with
      | none => rw [hf] at h; cases h.2
      | some e => rfl
    by_cases h1 : nb.st = 1
    · have q1 : (nb.st == 1) = true := by simpa using h1
      clear h1
      go_wp2_with fail
      go_ret
      exact ⟨by rw [HR.out, q1]; rfl, H2.out.1, H2.out.2⟩
    · have q1 : (nb.st == 1) = false := by simpa using h1
      clear h1
      obtain ⟨b4, hb4⟩ : ∃ b4, (nb.st == 4) = b4 := ⟨_, rfl⟩
      go_wp2_with fail
      go_ret
      exact ⟨by rw [HR.out, q1, hb4]; rfl, H2.out.1, H2.out.2⟩
end Go.Proofs.Ytialefdojeddjaa
namespace Go.Proofs.Ytialefdojeddjaa
open Go.RowKit Go.Maps

/-- a row of the book: whose it is, its items' slice, when it was asked last, how often -/
structure BV where
  k : KV
  la : Option Addr
  n : Nat
  lc : Nat
  lt : Int
  ct : Int
def bvC (r : BV) : Array Value := #[.int .i64 r.k.pt, .int .i64 r.k.V, .int .u8 (r.k.x 0 : Nat), .int .u8 (r.k.x 1 : Nat), .int .u8 (r.k.x 2 : Nat), .int .u8 (r.k.x 3 : Nat), .int .u8 (r.k.x 4 : Nat), .int .u8 (r.k.x 5 : Nat), .int .u8 (r.k.x 6 : Nat), .int .u8 (r.k.x 7 : Nat), .int .u8 (r.k.x 8 : Nat), .int .u8 (r.k.x 9 : Nat), .int .u8 (r.k.x 10 : Nat), .int .u8 (r.k.x 11 : Nat), .int .u8 (r.k.x 12 : Nat), .int .u8 (r.k.x 13 : Nat), .int .u8 (r.k.x 14 : Nat), .int .u8 (r.k.x 15 : Nat), .slice r.la r.n r.lc, .int .i64 r.lt, .int .i64 r.ct]
def bvz : BV := ⟨kz, none, 0, 0, 0, 0⟩
theorem Try.size_bvr : (Try.prog.info? 60).map (·.size) = some 21 := by kernel_rfl
def BvrAt (w : World) (O : Nat) (bv : BV) : Prop := w.heap[O]? = some (.cells (bvC bv) 60 (0, 0))
section
variable {w : World} {O : Nat} {bv : BV} (k : BvrAt w O bv)
include k
theorem BvrAt.lt : O < w.heap.size := (Array.getElem?_eq_some_iff.1 k).1
theorem BvrAt.ch {S : Nat → Prop} {w' : World} (c : Ch S w w') (hS : ¬ S O) : BvrAt w' O bv := (c.block O k.lt hS).trans k
theorem BvrAt.below {w' : World} (c : Below w.heap.size w w') : BvrAt w' O bv := (c.block O k.lt).trans k
theorem BvrAt.cell (i : Nat) : w.cell? ⟨O, i, none⟩ = (bvC bv)[i]? := by unfold BvrAt at k; simp [World.cell?, k]
theorem BvrAt.fz (j : Nat) : w.frozen? ⟨O, j, none⟩ = false := by unfold BvrAt at k; simp [World.frozen?, k]
theorem BvrAt.range (o n : Nat) : w.rangeAt O o (((bvC bv).extract o (o + n)).toList) := World.rangeAt_of_block k o n
end
theorem bvr_new (w : World) (bv : BV) : BvrAt (w.alloc (.cells (bvC bv) 60)) w.heap.size bv := heap_alloc_new _ _
theorem wpList_load_bvr {ops : Array Oper} {rest : List Oper} {o : Oper} {a : Act} {w : World} {Q : Exit → Act → World → Prop} (x : Operand) (ho : o.op = .load 60 x) (O : Nat) (bv : BV) (hx : a.eval x = .pointer (some ⟨O, 0, none⟩)) (hb : BvrAt w O bv)
    (hw : Region.wanted o (yielded ops a.tmps) = true) (hh : wpList Try.prog ops Q rest (a.put o.dst (.agg (bvC bv))) w) : wpList Try.prog ops Q (o :: rest) a w := by
  refine wpList_step fun K hK => ?_
  rw [if_pos hw]
  exact wp_load_row 60 x ho O hx _ _ _ _ hb Try.underlying60 rfl Try.size_bvr (hK _ _ hh)
theorem wpList_store_bvr {ops : Array Oper} {rest : List Oper} {o : Oper} {a : Act} {w : World} {Q : Exit → Act → World → Prop} (x y : Operand) (ho : o.op = .store 60 x y) (hd : o.dst = none) (O : Nat) (bv : BV) (bv' : BV) (hx : a.eval x = .pointer (some ⟨O, 0, none⟩)) (hy : a.eval y = .agg (bvC bv')) (hb : BvrAt w O bv)
    (hw : Region.wanted o (yielded ops a.tmps) = true) (hh : ∀ w', BvrAt w' O bv' → Ch (fun q => q = O) w w' → wpList Try.prog ops Q rest a w') : wpList Try.prog ops Q (o :: rest) a w := by
  refine wpList_step fun K hK => ?_
  rw [if_pos hw]
  refine wp_store_row 60 x y ho O (bvC bv') hx hy _ (bvC bv) hb Try.size_bvr rfl (by simp [bvC, Value.oneCell']) (hK _ _ ?_)
  rw [hd]
  refine hh _ (setRow_heap w O _ _ _ _ hb) ⟨rfl, rfl, rfl, ?_, ?_⟩
  · simp [World.setRow]
  · intro k hk hne
    simp only [World.setRow]
    rw [Array.getElem?_modify, if_neg (fun e => hne e.symm)]
theorem wpList_alloc_bvr {ops : Array Oper} {rest : List Oper} {o : Oper} {a : Act} {w : World} {Q : Exit → Act → World → Prop} (ho : o.op = .alloc 60) (hw : Region.wanted o (yielded ops a.tmps) = true)
    (h : wpList Try.prog ops Q rest (a.put o.dst (.pointer (some ⟨w.heap.size, 0, none⟩))) (w.alloc (.cells (bvC bvz) 60))) : wpList Try.prog ops Q (o :: rest) a w := by
  refine wpList_step fun K hK => ?_
  rw [if_pos hw]
  have hrun : (execOp a.eval o).run Try.prog w = .ok (.value (.pointer (some ⟨w.heap.size, 0, none⟩))) (w.alloc (.cells (bvC bvz) 60)) := by
    obtain ⟨dst, op, type, pos, after, guard⟩ := o
    simp only at ho
    subst ho
    simp only [execOp]
    go_simp
    rfl
  unfold Oper.wp
  rw [hrun]
  exact hK _ _ h
theorem yields_bvr {ops : Array Oper} {o : Oper} {a : Act} {S : World → Prop} (x : Operand) (ho : o.op = .load 60 x) (O off : Nat) (bv : BV) (hx : a.eval x = .pointer (some ⟨O, off, none⟩)) (hw : Region.wanted o (yielded ops a.tmps) = true) (hS : ∀ w, S w → w.rangeAt O off (bvC bv).toList) : YieldsIf Try.prog ops S o (.agg (bvC bv)) a :=
  yieldsIf_load_mid hw 60 x ho O off hx (bvC bv).toList _ hS Try.underlying60 rfl Try.size_bvr
theorem wpList_mid_bvr {ops : Array Oper} {rest : List Oper} {o : Oper} {a : Act} {w : World} {Q : Exit → Act → World → Prop} (x : Operand) (ho : o.op = .load 60 x) (O off : Nat) (bv : BV) (hx : a.eval x = .pointer (some ⟨O, off, none⟩)) (hb : w.rangeAt O off (bvC bv).toList)
    (hw : Region.wanted o (yielded ops a.tmps) = true) (h : wpList Try.prog ops Q rest (a.put o.dst (.agg (bvC bv))) w) : wpList Try.prog ops Q (o :: rest) a w := by
  refine wpList_step fun K hK => ?_
  rw [if_pos hw]
  exact wp_load_mid 60 x ho O off hx (bvC bv).toList _ hb Try.underlying60 rfl Try.size_bvr (hK _ _ h)
theorem results_bvr {fn : Func} {p : Tmp} (h : fn.results = #[.cell p 60]) (tmps : Array Value) (w : World) (O : Nat) (bv : BV) (hp : tmps.getD p undef = .pointer (some ⟨O, 0, none⟩)) (hb : BvrAt w O bv) :
    (results fn tmps).run Try.prog w = .ok (.agg (bvC bv)) w :=
  results_cell_row h tmps w O _ (bvC bv) _ _ hp hb Try.underlying60 rfl Try.size_bvr
def bcs (L : List BV) : List Value := L.flatMap fun r => (bvC r).toList
theorem bC_len (r : BV) : (bvC r).toList.length = 21 := rfl
theorem bcs_nil : bcs [] = [] := rfl
theorem bcs_app (L K : List BV) : bcs (L ++ K) = bcs L ++ bcs K := by simp [bcs]
theorem bcs_one (r : BV) : bcs [r] = (bvC r).toList := by simp [bcs]
theorem bcs_cons (r : BV) (L : List BV) : bcs (r :: L) = (bvC r).toList ++ bcs L := by simp [bcs]
theorem bcs_len (L : List BV) : (bcs L).length = L.length * 21 := by
  induction L with
  | nil => rfl
  | cons r L ih => rw [bcs_cons, List.length_append, ih, bC_len]; simp; omega
theorem bcs_get (L : List BV) (i : Nat) (r : BV) (h : L[i]? = some r) (j : Nat) (hj : j < 21) : (bcs L)[i * 21 + j]? = (bvC r).toList[j]? := by
  induction L generalizing i with
  | nil => simp at h
  | cons s L ih =>
    rw [bcs_cons]
    cases i with
    | zero =>
      simp only [List.getElem?_cons_zero, Option.some.injEq] at h
      subst h
      rw [Nat.zero_mul, Nat.zero_add, List.getElem?_append_left (by rw [bC_len]; exact hj)]
    | succ i =>
      simp only [List.getElem?_cons_succ] at h
      rw [List.getElem?_append_right (by rw [bC_len]; omega), bC_len, show (i + 1) * 21 + j - 21 = i * 21 + j by omega]
      exact ih i h
theorem bC_one (r : BV) : ∀ u ∈ (bvC r).toList, u.oneCell' = true := by simp [bvC, Value.oneCell']
def BL (w : World) (base : Nat) (v : Value) (L : List BV) : Prop := w.ownsRow base 60 21 v L.length (bcs L)
theorem BL.nil (w : World) (base : Nat) : BL w base (.slice none 0 0) [] := World.ownsRow_nil _ _ _ _
theorem BL.ch {S : Nat → Prop} {a b : World} {base : Nat} {v : Value} {L : List BV} (h : BL a base v L) (k : Ch S a b) (hS : ∀ g, v.ownBlock = some g → ¬ S g) : BL b base v L := k.owns h hS
theorem BL.below {a b : World} {base : Nat} {v : Value} {L : List BV} (h : BL a base v L) (k : Below a.heap.size a b) : BL b base v L := h.ch (Ch.ofBelow (S := fun _ => False) k) (fun _ _ => id)
theorem BL.at {w : World} {base : Nat} {v : Value} {L : List BV} (h : BL w base v L) (i : Nat) (r : BV) (hr : L[i]? = some r) : ∃ g cap, v = .slice (some ⟨g, 0, none⟩) L.length cap ∧ base ≤ g ∧ g < w.heap.size ∧ w.rangeAt g (i * 21) (bvC r).toList := by
  have hi := (List.getElem?_eq_some_iff.1 hr).1
  rcases h.2 with ⟨rfl, h0⟩ | ⟨g, cap, cur, rfl, hb, hg, hnc, hcm, hcs, ht⟩
  · omega
  · refine ⟨g, cap, rfl, hb, (Array.getElem?_eq_some_iff.1 hg).1, fun j u hj => ?_⟩
    have hj' : j < 21 := by have := (List.getElem?_eq_some_iff.1 hj).1; rwa [bC_len] at this
    have hc := h.cells rfl (i * 21 + j) u (by rw [bcs_get L i r hr j hj']; exact hj)
    rwa [Addr.add_lit, Nat.zero_add] at hc
theorem run_bs1b (r : BV) (w : World) : (Instr.buildSlice 56 1 #[(0, .agg (bvC r))]).run Try.prog w = .ok (.slice (some ⟨w.heap.size, 0, none⟩) 1 1) (w.alloc (.cells (bvC r) 60)) := by kernel_rfl
theorem wpList_bs1b {ops : Array Oper} {rest : List Oper} {o : Oper} {a : Act} {w : World} {Q : Exit → Act → World → Prop} (x : Operand) (ho : o.op = .buildSlice 56 1 #[(0, x)]) (r : BV) (hx : a.eval x = .agg (bvC r)) (hw : Region.wanted o (yielded ops a.tmps) = true)
    (h : wpList Try.prog ops Q rest (a.put o.dst (.slice (some ⟨w.heap.size, 0, none⟩) 1 1)) (w.alloc (.cells (bvC r) 60))) : wpList Try.prog ops Q (o :: rest) a w := by
  refine wpList_step fun K hK => ?_
  rw [if_pos hw]
  unfold Oper.wp execOp
  simp only [ho, Sem.run_bind, List.map_toArray, List.map_cons, List.map_nil, hx, run_bs1b r w, Result.andThen_ok]
  exact hK _ _ h
theorem Try.infoB : ∃ i z, Try.prog.info? 60 = some i ∧ i.zero = some z ∧ i.size = 21 ∧ z.cells.size = 21 ∧ i.bytes ≤ 1000 := by
  have h : (Try.prog.info? 60).any (fun i => i.zero.any (fun z => i.size == 21 && z.cells.size == 21 && decide (i.bytes ≤ 1000))) = true := by kernel_rfl
  cases hi : Try.prog.info? 60 with
  | none => rw [hi] at h; simp at h
  | some i =>
    rw [hi] at h
    cases hz : i.zero with
    | none => rw [Option.any_some, hz] at h; simp at h
    | some z =>
      rw [Option.any_some, hz, Option.any_some] at h
      simp only [Bool.and_eq_true, beq_iff_eq, decide_eq_true_eq] at h
      exact ⟨i, z, rfl, hz, h.1.1, h.1.2, h.2⟩
/-- append of one route that lies in a box of its own -/
theorem wpList_app1b {ops : Array Oper} {rest : List Oper} {o : Oper} {a : Act} {w : World} {Q : Exit → Act → World → Prop} (hgd : o.guard = none) (s x : Operand) (ho : o.op = .call { callee := .builtin .append, args := #[s, x], argTypes := #[56, 56] })
    (base : Nat) (v : Value) (L : List BV) (hs : a.eval s = v) (hown : BL w base v L) (B : Nat) (r : BV) (hx : a.eval x = .slice (some ⟨B, 0, none⟩) 1 1) (hB : BvrAt w B r) (hL : L.length ≤ 100000) (hbase : base ≤ w.heap.size)
    (h : ∀ v' w', BL w' base v' (L ++ [r]) → w.grownBy w' v.ownBlock → (v'.ownBlock = v.ownBlock ∨ v'.ownBlock = some w.heap.size) → wpList Try.prog ops Q rest (a.put o.dst v') w') : wpList Try.prog ops Q (o :: rest) a w := by
  obtain ⟨i, z, hi, hz0, hz1, hz2, hz3⟩ := Try.infoB
  refine wpList_append_own_at w hgd s x 56 ho base 60 i z 21 i.bytes Try.underlying56 hi hz0 hz1 rfl hz2 (by decide) v L.length (bcs L) hs hown ⟨B, 0, none⟩ 1 1 (bvC r).toList hx (by rw [bC_len]) ?_ (bC_one r) (by unfold maxLen; omega) ?_ hbase ?_
  · intro j u hj
    rw [Addr.add_lit, Nat.zero_add, hB.cell j]
    simpa using hj
  · calc (L.length + 1) * i.bytes ≤ 100001 * 1000 := Nat.mul_le_mul (by omega) hz3
      _ ≤ _ := by decide
  · intro v' w' h1 h2 _ h4
    refine h v' w' ?_ h2 h4
    show w'.ownsRow base 60 21 v' (L ++ [r]).length (bcs (L ++ [r]))
    rw [bcs_app, bcs_one, List.length_append]
    exact h1
theorem BL.form {w : World} {base : Nat} {v : Value} {L : List BV} (h : BL w base v L) : ∃ va vc, v = .slice va L.length vc := by
  rcases h.2 with ⟨rfl, h0⟩ | ⟨g, cap, cur, rfl, _⟩
  · exact ⟨none, 0, by rw [h0]⟩
  · exact ⟨_, _, rfl⟩
theorem BL.cells {w : World} {base : Nat} {v : Value} {L : List BV} (h : BL w base v L) : ∀ g, v.ownBlock = some g → base ≤ g ∧ g < w.heap.size ∧ ∃ c, w.heap[g]? = some (.cells c 60 (0, 0)) := by
  intro g hg
  rcases h.2 with ⟨rfl, _⟩ | ⟨g', cap, cur, rfl, hb, hh, _⟩
  · simp [Value.ownBlock] at hg
  · simp [Value.ownBlock] at hg; subst hg; exact ⟨hb, (Array.getElem?_eq_some_iff.1 hh).1, cur, hh⟩
theorem BL.mono {w : World} {b b' : Nat} {v : Value} {L : List BV} (h : BL w b v L) (hb : b' ≤ b) : BL w b' v L := by
  refine ⟨h.1, ?_⟩
  rcases h.2 with h2 | ⟨g, cap, cur, rfl, hg, r⟩
  · exact .inl h2
  · exact .inr ⟨g, cap, cur, rfl, Nat.le_trans hb hg, r⟩
theorem BL.of_block {w w' : World} {base : Nat} {v : Value} {L : List BV} (h : BL w base v L) (k : ∀ g o, v.ownBlock = some g → w.heap[g]? = some o → w'.heap[g]? = some o) : BL w' base v L := by
  refine ⟨h.1, ?_⟩
  rcases h.2 with hn | ⟨g, cap, cur, rfl, hb, hgg, rest⟩
  · exact .inl hn
  · exact .inr ⟨g, cap, cur, rfl, hb, k g _ rfl hgg, rest⟩

def BOkT (_ : BV) : Prop := True
def bvL (r : BV) : List Value := (bvC r).toList
theorem bvL_len (r : BV) : (bvL r).length = 21 := rfl
theorem BL_GL {w : World} {base : Nat} {v : Value} {L : List BV} : BL w base v L ↔ GL 21 bvL 60 w base v L := Iff.rfl
/-- a list of rows that lies somewhere, to be read -/
abbrev BR (w : World) (la : Option Addr) (R : List BV) : Prop := ListG 21 bvL BOkT w la R
theorem BL.br {w : World} {base : Nat} {v : Value} {L : List BV} (h : BL w base v L) : ∃ va vc, v = .slice va L.length vc ∧ BR w va L := GL.listG (BL_GL.1 h) bvL_len (fun _ _ => trivial)
theorem BR.below {w w' : World} {la : Option Addr} {R : List BV} (h : BR w la R) (b : Below w.heap.size w w') : BR w' la R := ListG.old h b
theorem BR.ch {S : Nat → Prop} {w w' : World} {la : Option Addr} {R : List BV} (h : BR w la R) (k : Ch S w w') (hS : ∀ b off, la = some ⟨b, off, none⟩ → ¬ S b) : BR w' la R := by
  rcases h with h | ⟨b, off, ha, hlt, hc⟩
  · exact .inl h
  · refine .inr ⟨b, off, ha, by have := k.size; omega, fun i o ho => ⟨(hc i o ho).1, fun j hj => ?_⟩⟩
    rw [← (hc i o ho).2 j hj]
    have e := k.block b hlt (hS b off ha)
    unfold World.cell?
    simp only [e]
theorem BR.take {w : World} {la : Option Addr} {R : List BV} (h : BR w la R) (i : Nat) : BR w la (R.take i) := by
  rcases h with h | ⟨b, off, ha, hlt, hc⟩
  · exact .inl (by rw [h]; simp)
  · refine .inr ⟨b, off, ha, hlt, fun j o ho => hc j o ?_⟩
    rw [List.getElem?_take] at ho
    split at ho
    · exact ho
    · cases ho
theorem BR.drop {w : World} {b off : Nat} {R : List BV} (h : BR w (some ⟨b, off, none⟩) R) (i : Nat) : BR w (some ⟨b, off + i * 21, none⟩) (R.drop i) := by
  rcases h with h | ⟨b', off', ha, hlt, hc⟩
  · exact .inl (by rw [h]; simp)
  · cases ha
    refine .inr ⟨b, off + i * 21, rfl, hlt, fun j o ho => ?_⟩
    rw [List.getElem?_drop] at ho
    refine ⟨trivial, fun k hk => ?_⟩
    rw [← (hc (i + j) o ho).2 k hk]
    congr 2
    rw [Nat.add_mul]; omega
theorem BR.at {w : World} {la : Option Addr} {R : List BV} (h : BR w la R) (i : Nat) (r : BV) (hr : R[i]? = some r) : ∃ b off, la = some ⟨b, off, none⟩ ∧ b < w.heap.size ∧ w.rangeAt b (off + i * 21) (bvC r).toList := by
  obtain ⟨_, b, off, ha, hlt, hc⟩ := ListG.at h i r hr
  refine ⟨b, off, ha, hlt, fun j v hj => ?_⟩
  have hj' : j < 21 := (List.getElem?_eq_some_iff.1 hj).1
  rw [hc j hj']
  exact hj
theorem bv_ip {A : World} {g o : Nat} {r : BV} (h : A.rangeAt g o (bvC r).toList) : A.rangeAt g (o + 1) (ipCells r.k.V r.k.x).toList := by
  intro i v hi
  have hl : i < 17 := (List.getElem?_eq_some_iff.1 hi).1
  have h2 : (bvC r).toList[1 + i]? = some v := by
    have := lt20' (show i < 20 by omega)
    rcases this with rfl | rfl | rfl | rfl | rfl | rfl | rfl | rfl | rfl | rfl | rfl | rfl | rfl | rfl | rfl | rfl | rfl | rfl | rfl | rfl
    all_goals first | exact hi | omega
  have := h (1 + i) v h2
  rwa [← Nat.add_assoc] at this
/-- the place of a row, from the i-th on -/
def plI : List BV → KV → Nat → Int
  | [], _, _ => -1
  | r :: R, k, i => if eqP r.k k then (i : Int) else plI R k (i + 1)
theorem plI_skip : ∀ (R : List BV) (k : KV) (i m : Nat), i ≤ R.length → (∀ j r, j < i → R[j]? = some r → eqP r.k k = false) → plI R k m = plI (R.drop i) k (m + i)
  | R, _, 0, m, _, _ => by simp
  | [], _, i + 1, m, h, _ => by simp at h
  | r :: R, k, i + 1, m, h, hn => by
    have h0 := hn 0 r (by omega) rfl
    rw [List.drop_succ_cons, plI, if_neg (by rw [h0]; decide), plI_skip R k i (m + 1) (by simpa using h) (fun j s hj hs => hn (j + 1) s (by omega) (by simpa using hs))]
    congr 1
    omega
theorem plI_at {R : List BV} {k : KV} {i : Nat} {r : BV} (hr : R[i]? = some r) (hn : ∀ j r, j < i → R[j]? = some r → eqP r.k k = false) (he : eqP r.k k = true) : plI R k 0 = i := by
  obtain ⟨hi, e⟩ := List.getElem?_eq_some_iff.1 hr
  rw [plI_skip R k i 0 (by omega) hn, List.drop_eq_getElem_cons hi, plI, e, if_pos he]
  simp
theorem plI_none {R : List BV} {k : KV} (hn : ∀ j r, j < R.length → R[j]? = some r → eqP r.k k = false) : plI R k 0 = -1 := by
  rw [plI_skip R k R.length 0 (Nat.le_refl _) hn, List.drop_length]
  rfl
set_option maxHeartbeats 3200000 in
set_option maxRecDepth 100000 in
theorem place_any (la : Option Addr) (n lc : Nat) (R : List BV) (pt V : Int) (x : Nat → Nat) (w : World) (hR : BR w la R) (hn : R.length = n) (hl : n ≤ 2000000) : Calls Try.prog 25 #[.slice la n lc, .int .i64 pt, .agg (ipCells V x)] w fun r w' => r = .returned (.int .i64 (plI R ⟨pt, V, x⟩ 0)) ∧ Below w.heap.size w w' := by
  have hb := ipr_new w V x
  have bel : Below w.heap.size w (w.alloc (.cells (ipCells V x) 31)) := (Below.refl _ _).alloc (Nat.le_refl _) _
  obtain ⟨CX, hC⟩ : ∃ C, C = ipCells V x := ⟨_, rfl⟩
  obtain ⟨W, hW⟩ : ∃ W, W = w.alloc (.cells (ipCells V x) 31) := ⟨_, rfl⟩
  rw [← hW] at hb bel
  obtain ⟨B, hB⟩ : ∃ B, B = w.heap.size := ⟨_, rfl⟩
  rw [← hB] at hb
  have HQ0 : Hid (IprAt W B V x ∧ Below w.heap.size w W) := ⟨hb, bel⟩
  rw [← hC] at hW ⊢
  have HOX : Hid (w.heap.size = B) := hB.symm
  have HWX : Hid (w.alloc (.cells CX 31) = W) := hW.symm
  have HN : Hid (R.length = n ∧ n ≤ 2000000) := ⟨hn, hl⟩
  have HER : Hid (BR w la R) := hR
  obtain ⟨fd, hfd⟩ : ∃ fd, fd = plI R ⟨pt, V, x⟩ 0 := ⟨_, rfl⟩
  rw [← hfd]
  have HFD : Hid (fd = plI R ⟨pt, V, x⟩ 0) := hfd
  clear hb hW hB hC bel hR hn hl hfd
  go_enter Try.func25, Try.ntmps25
  go_upto_region 1 with fail
  rw [HOX.out, HWX.out]
  go_wp2_with fail
  go_loopw [7] (fun ix wr => ∃ i : Nat, ix = .int .i64 i ∧ i ≤ n ∧ Hid (IprAt wr B V x ∧ Below w.heap.size w wr) ∧ Hid (∀ j r, j < i → R[j]? = some r → eqP r.k ⟨pt, V, x⟩ = false)) (fun ix _ => n - (intOf ix).toNat)
  case atStart => exact ⟨0, rfl, by omega, HQ0, fun j r h => by omega⟩
  case round =>
    obtain ⟨i, rfl, hi, HQ, HNO⟩ := hrel
    clear HQ0
    by_cases hlt : i < n
    · have k0 : (0 : Int) ≤ (i : Int) := by omega
      have k1 : (i : Int) < (n : Int) := by omega
      have k2 : ((i : Int)).toNat = i := by omega
      have wi : IntKind.i64.wrap ((i : Int) + 1) = (i : Int) + 1 := by have := HN.out.2; rw [IntKind.wrap_i64]; omega
      obtain ⟨e, he⟩ : ∃ e, R[i]? = some e := ⟨_, List.getElem?_eq_getElem (by rw [HN.out.1]; exact hlt)⟩
      obtain ⟨g, off, hla, hx1, hrg⟩ := (HER.out.below HQ.out.2).at i e he
      subst hla
      have HRG : Hid (wr.rangeAt g (off + i * 21) (bvC e).toList) := hrg
      have HLT : Hid (i < n) := hlt
      have HEE : Hid (R[i]? = some e) := he
      clear he hx1 hrg hi
      obtain ⟨b2, hb2⟩ : ∃ b2, (e.k.V == V && same16 e.k.x x) = b2 := ⟨_, rfl⟩
      have HB2 : Hid ((e.k.V == V && same16 e.k.x x) = b2) := hb2
      clear hb2
      by_cases hp : e.k.pt = pt
      · have q1 : (e.k.pt == pt) = true := by simpa using hp
        have HEQ : Hid (eqP e.k ⟨pt, V, x⟩ = b2) := by
          show _ = _
          unfold eqP
          rw [show (e.k.pt == pt) = true from q1, Bool.true_and]
          exact HB2.out
        clear hp
        go_upto_region 4 with fail
        refine MixH.start (fun A => IprAt A B V x ∧ A.rangeAt g (off + i * 21) (bvC e).toList) (by kernel_rfl) ?_
        obtain ⟨wA, hwA⟩ : ∃ wA, wA = wr.drew := ⟨_, rfl⟩
        have bdr : Below wr.heap.size wr wA := by rw [hwA]; exact (Below.refl _ _).drew
        have hS : IprAt wA B V x ∧ wA.rangeAt g (off + i * 21) (bvC e).toList := ⟨HQ.out.1.below bdr, by rw [hwA]; exact HRG.out⟩
        have HE : Hid (IprAt wA B V x ∧ Below w.heap.size w wA) := ⟨hS.1, bthen HQ.out.2 bdr⟩
        rw [← hwA]
        clear hwA bdr HQ HRG
        refine MixH.takes [true, true, true, true] 12 (by kernel_rfl) (by kernel_rfl) (by decide) (by kernel_rfl) hS (fun K hK => ?_)
        simp only [Mix.pick]
        repeat (go_big_quiet_step (fail))
        refine wpQuiet_nil (hK _ ?_)
        clear hK K
        refine MixH.take 11 4 _ (.int .i64 e.k.pt) rfl (by kernel_rfl) (by kernel_rfl) (by kernel_rfl) (by kernel_rfl) (yields_int (.tmp 17) rfl ⟨g, off + i * 21, none⟩ (.int .i64 e.k.pt) rfl rfl (fun A hA => hA.2 0 _ rfl)) hS (fun a' ha => ?_)
        simp only [Act.put, List.setIfInBounds_toArray, List.set_cons_succ, List.set_cons_zero] at ha
        subst ha
        refine MixH.takes [false, false, false, false, false, true, true, true] 8 (by kernel_rfl) (by kernel_rfl) (by decide) (by kernel_rfl) hS (fun K hK => ?_)
        simp only [Mix.pick]
        repeat (go_big_quiet_step (fail))
        refine wpQuiet_nil (hK _ ?_)
        clear hK K
        refine MixH.takes [false, false, false, false, false, false, false, false, true, true, true, true] 4 (by kernel_rfl) (by kernel_rfl) (by decide) (by kernel_rfl) hS (fun K hK => ?_)
        simp only [Mix.pick]
        repeat (go_big_quiet_step (fail))
        refine wpQuiet_nil (hK _ ?_)
        clear hK K
        refine MixH.take 3 12 _ (.agg (ipCells e.k.V e.k.x)) rfl (by kernel_rfl) (by kernel_rfl) (by kernel_rfl) (by kernel_rfl) (yields_ipr (.tmp 25) rfl g (off + i * 21 + 1) e.k.V e.k.x rfl rfl (fun A hA => bv_ip hA.2)) hS (fun a' ha => ?_)
        simp only [Act.put, List.setIfInBounds_toArray, List.set_cons_succ, List.set_cons_zero] at ha
        subst ha
        refine MixH.take 2 13 _ (.agg (ipCells V x)) rfl (by kernel_rfl) (by kernel_rfl) (by kernel_rfl) (by kernel_rfl) (yields_ipr (.tmp 5) rfl B 0 V x rfl rfl (fun A hA => hA.1.all)) hS (fun a' ha => ?_)
        simp only [Act.put, List.setIfInBounds_toArray, List.set_cons_succ, List.set_cons_zero] at ha
        subst ha
        refine MixH.take 1 14 _ (.bool b2) rfl (by kernel_rfl) (by kernel_rfl) (by kernel_rfl) (by kernel_rfl) (yields_eql_ip (.tmp 26) (.tmp 27) rfl e.k.V V e.k.x x rfl rfl b2 HB2.out rfl) hS (fun a' ha => ?_)
        simp only [Act.put, List.setIfInBounds_toArray, List.set_cons_succ, List.set_cons_zero] at ha
        subst ha
        refine MixH.takes [false, false, false, false, false, false, false, false, false, false, false, false, false, false, false, true] 0 (by kernel_rfl) (by kernel_rfl) (by decide) (by kernel_rfl) hS (fun K hK => ?_)
        simp only [Mix.pick]
        repeat (go_big_quiet_step (fail))
        refine wpQuiet_nil (hK _ ?_)
        clear hK K
        refine MixH.done (by kernel_rfl) ?_
        clear hS
        cases b2 with
        | true =>
          go_wp2
          go_ret
          refine ⟨?_, HE.out.2⟩
          rw [HFD.out, plI_at HEE.out HNO.out HEQ.out]
          rfl
        | false =>
          go_wp2
          go_roundw
          case rel => exact ⟨i + 1, by first | rfl | go_num, by have := HLT.out; omega, HE, fun j r h1 h2 => by
            by_cases h : j = i
            · subst h
              rw [HEE.out] at h2
              cases h2
              exact HEQ.out
            · exact HNO.out j r (by omega) h2⟩
          case measure => have := HLT.out; simp [intOf]; omega
      · have q1 : (e.k.pt == pt) = false := by simpa using hp
        have HEQ : Hid (eqP e.k ⟨pt, V, x⟩ = false) := by
          show _ = _
          unfold eqP
          rw [show (e.k.pt == pt) = false from q1]
          rfl
        clear hp
        go_upto_region 4 with fail
        refine MixH.start (fun A => IprAt A B V x ∧ A.rangeAt g (off + i * 21) (bvC e).toList) (by kernel_rfl) ?_
        obtain ⟨wA, hwA⟩ : ∃ wA, wA = wr.drew := ⟨_, rfl⟩
        have bdr : Below wr.heap.size wr wA := by rw [hwA]; exact (Below.refl _ _).drew
        have hS : IprAt wA B V x ∧ wA.rangeAt g (off + i * 21) (bvC e).toList := ⟨HQ.out.1.below bdr, by rw [hwA]; exact HRG.out⟩
        have HE : Hid (IprAt wA B V x ∧ Below w.heap.size w wA) := ⟨hS.1, bthen HQ.out.2 bdr⟩
        rw [← hwA]
        clear hwA bdr HQ HRG
        refine MixH.takes [true, true, true, true] 12 (by kernel_rfl) (by kernel_rfl) (by decide) (by kernel_rfl) hS (fun K hK => ?_)
        simp only [Mix.pick]
        repeat (go_big_quiet_step (fail))
        refine wpQuiet_nil (hK _ ?_)
        clear hK K
        refine MixH.take 11 4 _ (.int .i64 e.k.pt) rfl (by kernel_rfl) (by kernel_rfl) (by kernel_rfl) (by kernel_rfl) (yields_int (.tmp 17) rfl ⟨g, off + i * 21, none⟩ (.int .i64 e.k.pt) rfl rfl (fun A hA => hA.2 0 _ rfl)) hS (fun a' ha => ?_)
        simp only [Act.put, List.setIfInBounds_toArray, List.set_cons_succ, List.set_cons_zero] at ha
        subst ha
        refine MixH.takes [false, false, false, false, false, true, true, true] 8 (by kernel_rfl) (by kernel_rfl) (by decide) (by kernel_rfl) hS (fun K hK => ?_)
        simp only [Mix.pick]
        repeat (go_big_quiet_step (fail))
        refine wpQuiet_nil (hK _ ?_)
        clear hK K
        refine MixH.take 7 8 _ (undef) rfl (by kernel_rfl) (by kernel_rfl) (by kernel_rfl) (by kernel_rfl) (.inr ⟨rfl, rfl⟩) hS (fun a' ha => ?_)
        simp only [Act.put, List.setIfInBounds_toArray, List.set_cons_succ, List.set_cons_zero] at ha
        subst ha
        refine MixH.take 6 9 _ (undef) rfl (by kernel_rfl) (by kernel_rfl) (by kernel_rfl) (by kernel_rfl) (.inr ⟨rfl, rfl⟩) hS (fun a' ha => ?_)
        simp only [Act.put, List.setIfInBounds_toArray, List.set_cons_succ, List.set_cons_zero] at ha
        subst ha
        refine MixH.take 5 10 _ (undef) rfl (by kernel_rfl) (by kernel_rfl) (by kernel_rfl) (by kernel_rfl) (.inr ⟨rfl, rfl⟩) hS (fun a' ha => ?_)
        simp only [Act.put, List.setIfInBounds_toArray, List.set_cons_succ, List.set_cons_zero] at ha
        subst ha
        refine MixH.take 4 11 _ (undef) rfl (by kernel_rfl) (by kernel_rfl) (by kernel_rfl) (by kernel_rfl) (.inr ⟨rfl, rfl⟩) hS (fun a' ha => ?_)
        simp only [Act.put, List.setIfInBounds_toArray, List.set_cons_succ, List.set_cons_zero] at ha
        subst ha
        refine MixH.take 3 12 _ (undef) rfl (by kernel_rfl) (by kernel_rfl) (by kernel_rfl) (by kernel_rfl) (.inr ⟨rfl, rfl⟩) hS (fun a' ha => ?_)
        simp only [Act.put, List.setIfInBounds_toArray, List.set_cons_succ, List.set_cons_zero] at ha
        subst ha
        refine MixH.take 2 13 _ (undef) rfl (by kernel_rfl) (by kernel_rfl) (by kernel_rfl) (by kernel_rfl) (.inr ⟨rfl, rfl⟩) hS (fun a' ha => ?_)
        simp only [Act.put, List.setIfInBounds_toArray, List.set_cons_succ, List.set_cons_zero] at ha
        subst ha
        refine MixH.take 1 14 _ (undef) rfl (by kernel_rfl) (by kernel_rfl) (by kernel_rfl) (by kernel_rfl) (.inr ⟨rfl, rfl⟩) hS (fun a' ha => ?_)
        simp only [Act.put, List.setIfInBounds_toArray, List.set_cons_succ, List.set_cons_zero] at ha
        subst ha
        refine MixH.takes [false, false, false, false, false, false, false, false, false, false, false, false, false, false, false, true] 0 (by kernel_rfl) (by kernel_rfl) (by decide) (by kernel_rfl) hS (fun K hK => ?_)
        simp only [Mix.pick]
        repeat (go_big_quiet_step (fail))
        refine wpQuiet_nil (hK _ ?_)
        clear hK K
        refine MixH.done (by kernel_rfl) ?_
        clear hS
        go_wp2
        go_roundw
        case rel => exact ⟨i + 1, by first | rfl | go_num, by have := HLT.out; omega, HE, fun j r h1 h2 => by
          by_cases h : j = i
          · subst h
            rw [HEE.out] at h2
            cases h2
            exact HEQ.out
          · exact HNO.out j r (by omega) h2⟩
        case measure => have := HLT.out; simp [intOf]; omega
    · have hni : ¬ ((i : Int) < (n : Int)) := by omega
      have HNA : Hid (∀ j r, j < R.length → R[j]? = some r → eqP r.k ⟨pt, V, x⟩ = false) := fun j r h1 h2 => HNO.out j r (by have := HN.out.1; omega) h2
      go_wp2_with fail
      go_ret
      refine ⟨?_, HQ.out.2⟩
      rw [HFD.out, plI_none HNA.out]
      rfl
end Go.Proofs.Ytialefdojeddjaa
namespace Go.Proofs.Ytialefdojeddjaa
open Go.RowKit Go.Maps

section
variable {α : Type} {K : Nat} {cells : α → List Value}
/-- append of a list that was handed in -/
theorem wpList_appH {ops : Array Oper} {rest : List Oper} {o : Oper} {a : Act} {w : World} {Q : Exit → Act → World → Prop} (hcl : ∀ o, (cells o).length = K) (h1c : ∀ o, ∀ u ∈ cells o, u.oneCell' = true) (hK : 0 < K) (hgd : o.guard = none) (s x : Operand) (t e : TypeId) (ho : o.op = .call { callee := .builtin .append, args := #[s, x], argTypes := #[t, t] })
    (ht : Try.prog.underlying t = some (.slice e)) (hinfo : ∃ i z, Try.prog.info? e = some i ∧ i.zero = some z ∧ i.size = K ∧ z.cells.size = K ∧ i.bytes ≤ 1000)
    (base : Nat) (v : Value) (L : List α) (hs : a.eval s = v) (hown : GL K cells e w base v L) (ok : α → Prop) (la : Option Addr) (lc : Nat) (rs : List α) (hx : a.eval x = .slice la rs.length lc) (hG : ListG K cells ok w la rs) (hL : L.length ≤ 2000000) (hR : rs.length ≤ 2000000) (hbase : base ≤ w.heap.size)
    (h : ∀ v' w', GL K cells e w' base v' (L ++ rs) → w.grownBy w' v.ownBlock → (v'.ownBlock = v.ownBlock ∨ v'.ownBlock = some w.heap.size) → wpList Try.prog ops Q rest (a.put o.dst v') w') : wpList Try.prog ops Q (o :: rest) a w := by
  obtain ⟨i, z, hi, hz0, hz1, hz2, hz3⟩ := hinfo
  cases la with
  | none =>
    have hr0 : rs = [] := by
      rcases hG with h0 | ⟨b, off, hb, _⟩
      · exact h0
      · cases hb
    subst hr0
    refine wpList_plain hgd fun Kk hKk => ?_
    have hrun := run_append_nil (P := Try.prog) (w := w) base t o.type e i K ht hi v L.length lc (L.flatMap cells) hown
    unfold Oper.wp
    simp only [List.length_nil] at hx
    simp [execOp, ho, resolve, invoke, builtin, hs, hx, hrun, Result.andThen]
    exact hKk _ _ (h v w (by simpa using hown) ⟨rfl, rfl, rfl, Nat.le_refl _, fun _ _ _ => rfl⟩ (.inl rfl))
  | some ad =>
    refine wpList_append_own_at w hgd s x t ho base e i z K i.bytes ht hi hz0 hz1 rfl hz2 hK v L.length (L.flatMap cells) hs hown ad rs.length lc (rs.flatMap cells) hx (fmc_len K cells hcl rs) ?_ ?_ (by unfold maxLen; omega) ?_ hbase ?_
    · intro j u hj
      rcases hG with h0 | ⟨b, off, hb, hlt, hc⟩
      · subst h0; simp at hj
      · cases hb
        have hjl := (List.getElem?_eq_some_iff.1 hj).1
        rw [fmc_len K cells hcl] at hjl
        have hq : j / K < rs.length := (Nat.div_lt_iff_lt_mul hK).2 hjl
        have hm : j % K < K := Nat.mod_lt _ hK
        have hoq : rs[j / K]? = some rs[j / K] := List.getElem?_eq_getElem hq
        have e1 : j / K * K + j % K = j := by rw [Nat.mul_comm]; exact Nat.div_add_mod j K
        have e2 := fmc_get K cells hcl rs (j / K) _ hoq (j % K) hm
        rw [e1, hj] at e2
        have e3 := (hc (j / K) _ hoq).2 (j % K) hm
        rw [Nat.add_assoc, e1] at e3
        rw [Addr.add_lit, e3, ← e2]
    · intro u hu
      obtain ⟨o', _, hu'⟩ := List.mem_flatMap.1 hu
      exact h1c o' u hu'
    · calc (L.length + rs.length) * i.bytes ≤ 4000000 * 1000 := Nat.mul_le_mul (by omega) hz3
        _ ≤ _ := by decide
    · intro v' w' q1 q2 _ q4
      refine h v' w' ?_ q2 q4
      show w'.ownsRow base e K v' (L ++ rs).length ((L ++ rs).flatMap cells)
      rw [List.flatMap_append, List.length_append]
      exact q1
end
theorem wpList_app1c {ops : Array Oper} {rest : List Oper} {o : Oper} {a : Act} {w : World} {Q : Exit → Act → World → Prop} (hgd : o.guard = none) (s x : Operand) (ho : o.op = .call { callee := .builtin .append, args := #[s, x], argTypes := #[56, 56] })
    (base : Nat) (v : Value) (L : List BV) (hs : a.eval s = v) (hown : BL w base v L) (B : Nat) (r : BV) (hx : a.eval x = .slice (some ⟨B, 0, none⟩) 1 1) (hB : BvrAt w B r) (hL : L.length ≤ 2000000) (hbase : base ≤ w.heap.size)
    (h : ∀ v' w', BL w' base v' (L ++ [r]) → w.grownBy w' v.ownBlock → (v'.ownBlock = v.ownBlock ∨ v'.ownBlock = some w.heap.size) → wpList Try.prog ops Q rest (a.put o.dst v') w') : wpList Try.prog ops Q (o :: rest) a w := by
  obtain ⟨i, z, hi, hz0, hz1, hz2, hz3⟩ := Try.infoB
  refine wpList_append_own_at w hgd s x 56 ho base 60 i z 21 i.bytes Try.underlying56 hi hz0 hz1 rfl hz2 (by decide) v L.length (bcs L) hs hown ⟨B, 0, none⟩ 1 1 (bvC r).toList hx (by rw [bC_len]) ?_ (bC_one r) (by unfold maxLen; omega) ?_ hbase ?_
  · intro j u hj
    rw [Addr.add_lit, Nat.zero_add, hB.cell j]
    simpa using hj
  · calc (L.length + 1) * i.bytes ≤ 2000001 * 1000 := Nat.mul_le_mul (by omega) hz3
      _ ≤ _ := by decide
  · intro v' w' h1 h2 _ h4
    refine h v' w' ?_ h2 h4
    show w'.ownsRow base 60 21 v' (L ++ [r]).length (bcs (L ++ [r]))
    rw [bcs_app, bcs_one, List.length_append]
    exact h1

theorem wpList_app_br {ops : Array Oper} {rest : List Oper} {o : Oper} {a : Act} {w : World} {Q : Exit → Act → World → Prop} (hgd : o.guard = none) (s x : Operand) (ho : o.op = .call { callee := .builtin .append, args := #[s, x], argTypes := #[56, 56] })
    (base : Nat) (v : Value) (L : List BV) (hs : a.eval s = v) (hown : BL w base v L) (la : Option Addr) (n lc : Nat) (R : List BV) (hx : a.eval x = .slice la n lc) (hn : R.length = n) (hG : BR w la R) (hL : L.length ≤ 2000000) (hR : n ≤ 2000000) (hbase : base ≤ w.heap.size)
    (h : ∀ v' w', BL w' base v' (L ++ R) → w.grownBy w' v.ownBlock → (v'.ownBlock = v.ownBlock ∨ v'.ownBlock = some w.heap.size) → wpList Try.prog ops Q rest (a.put o.dst v') w') : wpList Try.prog ops Q (o :: rest) a w := by
  subst hn
  exact wpList_appH (cells := bvL) bvL_len bC_one (by decide) hgd s x 56 60 ho Try.underlying56 Try.infoB base v L hs hown BOkT la lc R hx hG hL hR hbase h
theorem run_buildbv (k : KV) (w : World) : (Instr.build 60 #[(0, .int .i64 k.pt), (1, .agg (ipCells k.V k.x))]).run Try.prog w = .ok (.agg (bvC ⟨k, none, 0, 0, 0, 0⟩)) w := by kernel_rfl
theorem wpList_build_bv {ops : Array Oper} {rest : List Oper} {o : Oper} {a : Act} {w : World} {Q : Exit → Act → World → Prop} (x y : Operand) (ho : o.op = .build 60 #[(0, x), (1, y)]) (k : KV) (r : BV) (hr : r = ⟨k, none, 0, 0, 0, 0⟩) (hx : a.eval x = .int .i64 k.pt) (hy : a.eval y = .agg (ipCells k.V k.x)) (hw : Region.wanted o (yielded ops a.tmps) = true)
    (h : wpList Try.prog ops Q rest (a.put o.dst (.agg (bvC r))) w) : wpList Try.prog ops Q (o :: rest) a w := by
  subst hr
  refine wpList_step fun K hK => ?_
  rw [if_pos hw]
  unfold Oper.wp execOp
  simp only [ho, Sem.run_bind, List.map_toArray, List.map_cons, List.map_nil, hx, hy, run_buildbv k w, Result.andThen_ok]
  exact hK _ _ h
theorem plI_cases (k : KV) : ∀ (R : List BV) (m : Nat), (plI R k m = -1 ∧ ∀ r ∈ R, eqP r.k k = false) ∨ ∃ i e, R[i]? = some e ∧ eqP e.k k = true ∧ plI R k m = ((m + i : Nat) : Int)
  | [], m => .inl ⟨rfl, fun r hr => by cases hr⟩
  | r :: R, m => by
    unfold plI
    by_cases h : eqP r.k k = true
    · exact .inr ⟨0, r, rfl, h, by rw [if_pos h]; simp⟩
    · rw [if_neg h]
      rcases plI_cases k R (m + 1) with ⟨h1, h2⟩ | ⟨i, e, h1, h2, h3⟩
      · refine .inl ⟨h1, fun s hs => ?_⟩
        rcases List.mem_cons.1 hs with rfl | hs
        · simpa using h
        · exact h2 s hs
      · exact .inr ⟨i + 1, e, by simpa using h1, h2, by rw [h3]; congr 1; omega⟩
/-- where a new row goes -/
def AtPb (R : List BV) (k : KV) (p : Nat) : Prop := p ≤ R.length ∧ (∀ j r, j < p → R[j]? = some r → lt3 r.k k) ∧ ∀ r, R[p]? = some r → ¬ lt3 r.k k
def RowP (la : Option Addr) (n lc : Nat) (R : List BV) (k : KV) (w : World) (r : Ending) (w' : World) : Prop :=
  Below w.heap.size w w' ∧ ((∃ (i : Nat) (e : BV), R[i]? = some e ∧ eqP e.k k = true ∧ r = .returned (.tuple #[.slice la n lc, .int .i64 (i : Int)])) ∨
    ((∀ r ∈ R, eqP r.k k = false) ∧ ∃ (v : Value) (p : Nat), r = .returned (.tuple #[v, .int .i64 (p : Int)]) ∧ AtPb R k p ∧ BL w' w.heap.size v (R.take p ++ (⟨k, none, 0, 0, 0, 0⟩ : BV) :: R.drop p)))
set_option maxHeartbeats 6400000 in
set_option maxRecDepth 100000 in
theorem row_any (la : Option Addr) (n lc : Nat) (R : List BV) (k : KV) (w : World) (hR : BR w la R) (hn : R.length = n) (hl : n ≤ 1048576) (hc : n ≤ lc) (hc2 : lc ≤ 9223372036854775807) (hc0 : (la = none ∧ lc = 0) ∨ ∃ g off, la = some ⟨g, off, none⟩) (hx : ∀ e ∈ R, e.k.Wf) (hr : k.Wf) : Calls Try.prog 24 #[.slice la n lc, .int .i64 k.pt, .agg (ipCells k.V k.x)] w fun e w' => RowP la n lc R k w e w' := by
  have HN : Hid (R.length = n ∧ n ≤ 1048576 ∧ n ≤ lc ∧ lc ≤ 9223372036854775807 ∧ ((la = none ∧ lc = 0) ∨ ∃ g off, la = some ⟨g, off, none⟩)) := ⟨hn, hl, hc, hc2, hc0⟩
  have HER : Hid (BR w la R) := hR
  have HWF : Hid ((∀ e ∈ R, e.k.Wf) ∧ k.Wf) := ⟨hx, hr⟩
  clear hR hn hl hc hc2 hc0 hx hr
  have hb := ipr_new w k.V k.x
  have bel : Below w.heap.size w (w.alloc (.cells (ipCells k.V k.x) 31)) := (Below.refl _ _).alloc (Nat.le_refl _) _
  obtain ⟨CX, hC⟩ : ∃ C, C = ipCells k.V k.x := ⟨_, rfl⟩
  obtain ⟨W, hW⟩ : ∃ W, W = w.alloc (.cells (ipCells k.V k.x) 31) := ⟨_, rfl⟩
  rw [← hW] at hb bel
  obtain ⟨B, hB⟩ : ∃ B, B = w.heap.size := ⟨_, rfl⟩
  rw [← hB] at hb
  have HBX : Hid (IprAt W B k.V k.x ∧ Below w.heap.size w W) := ⟨hb, bel⟩
  rw [← hC] at hW ⊢
  have HOX : Hid (w.heap.size = B) := hB.symm
  have HWX : Hid (w.alloc (.cells CX 31) = W) := hW.symm
  clear hb hW hB hC bel
  have QP : Hid _ := place_any la n lc R k.pt k.V k.x W (HER.out.below HBX.out.2) HN.out.1 (by have := HN.out; omega)
  obtain ⟨fd, hfd⟩ : ∃ fd, fd = plI R ⟨k.pt, k.V, k.x⟩ 0 := ⟨_, rfl⟩
  rw [← hfd] at QP
  have HFD : Hid (fd = plI R ⟨k.pt, k.V, k.x⟩ 0) := hfd
  clear hfd
  go_enter Try.func24, Try.ntmps24
  go_upto_region 1 with fail
  rw [HOX.out, HWX.out]
  go_wp2_with (first | (refine wpList_load_ipr (.tmp 5) rfl B k.V k.x rfl HBX.out.1 rfl ?_))
  refine Calls.mono QP.out ?_
  rintro r w1 ⟨rfl, b1⟩
  have H1 : Hid (IprAt w1 B k.V k.x ∧ Below w.heap.size w w1) := ⟨HBX.out.1.below b1, bthen HBX.out.2 b1⟩
  clear b1 QP HBX HWX
  rcases plI_cases k R 0 with ⟨g1, g2⟩ | ⟨i, e, g1, g2, g3⟩
  rotate_left
  · obtain rfl : fd = (i : Int) := by rw [HFD.out]; simpa using g3
    have q0 : (0 : Int) ≤ (i : Int) := by omega
    have HEE : Hid (R[i]? = some e ∧ eqP e.k k = true) := ⟨g1, g2⟩
    clear g1 g2 g3 HFD
    go_wp2_with fail
    go_ret2
    exact ⟨H1.out.2, .inl ⟨i, e, HEE.out.1, HEE.out.2, rfl⟩⟩
  obtain rfl : fd = -1 := by rw [HFD.out]; exact g1
  have HNF : Hid (∀ r ∈ R, eqP r.k k = false) := g2
  obtain ⟨r, hre⟩ : ∃ r : BV, r = ⟨k, none, 0, 0, 0, 0⟩ := ⟨_, rfl⟩
  have HRE : Hid (r = ⟨k, none, 0, 0, 0, 0⟩) := hre
  clear g1 g2 HFD hre
  go_upto_block 0 with fail
  go_cut [8] (fun ix wx => ∃ p : Nat, ix = .int .i64 (p : Int) ∧ p ≤ n ∧ Hid (AtPb R k p ∧ IprAt wx B k.V k.x ∧ Below w.heap.size w wx))
  case first =>
    go_wp2_with fail
    go_loopw [8] (fun ix wr => ∃ i : Nat, ix = .int .i64 (i : Int) ∧ i ≤ n ∧ Hid (IprAt wr B k.V k.x ∧ Below w.heap.size w wr) ∧ Hid (∀ j e, j < i → R[j]? = some e → lt3 e.k k)) (fun ix _ => n - (intOf ix).toNat)
    case atStart => exact ⟨0, rfl, by omega, H1, fun j e h => by omega⟩
    case round =>
      obtain ⟨i, rfl, hi, HQ, HNO⟩ := hrel
      clear H1
      by_cases hlt : i < n
      · have k0 : (0 : Int) ≤ (i : Int) := by omega
        have k1 : (i : Int) < (n : Int) := by omega
        have k2 : ((i : Int)).toNat = i := by omega
        have wi : IntKind.i64.wrap ((i : Int) + 1) = (i : Int) + 1 := by have := HN.out.2.1; rw [IntKind.wrap_i64]; omega
        obtain ⟨e, he⟩ : ∃ e, R[i]? = some e := ⟨_, List.getElem?_eq_getElem (by rw [HN.out.1]; exact hlt)⟩
        obtain ⟨g, off, hla, _, _⟩ := HER.out.at i e he
        subst hla
        have HRB : Hid (∀ A, Below w.heap.size w A → A.rangeAt g (off + i * 21) (bvC e).toList) := fun A hA => by
          obtain ⟨g', off', hla', _, hrg⟩ := (HER.out.below hA).at i e he
          cases hla'
          exact hrg
        have HLT : Hid (i < n) := hlt
        have HEE : Hid (R[i]? = some e) := he
        have HXX : Hid (e.k.Wf ∧ k.Wf) := ⟨HWF.out.1 e (List.mem_of_getElem? he), HWF.out.2⟩
        clear he hi
        go_upto_region 5 with fail
        refine MixH.start (fun A => IprAt A B k.V k.x ∧ A.rangeAt g (off + i * 21) (bvC e).toList) (by kernel_rfl) ?_
        obtain ⟨wA, hwA⟩ : ∃ wA, wA = wr.drew := ⟨_, rfl⟩
        have bdr : Below wr.heap.size wr wA := by rw [hwA]; exact (Below.refl _ _).drew
        have HE0 : Hid (IprAt wA B k.V k.x ∧ Below w.heap.size w wA) := ⟨HQ.out.1.below bdr, bthen HQ.out.2 bdr⟩
        have hS : IprAt wA B k.V k.x ∧ wA.rangeAt g (off + i * 21) (bvC e).toList := ⟨HE0.out.1, HRB.out wA HE0.out.2⟩
        rw [← hwA]
        clear hwA bdr HQ
        refine MixH.takes [true, true] 17 (by kernel_rfl) (by kernel_rfl) (by decide) (by kernel_rfl) hS (fun K hK => ?_)
        simp only [Mix.pick]
        repeat (go_big_quiet_step (fail))
        refine wpQuiet_nil (hK _ ?_)
        clear hK K
        refine MixH.takes [false, false, true] 16 (by kernel_rfl) (by kernel_rfl) (by decide) (by kernel_rfl) hS (fun K hK => ?_)
        simp only [Mix.pick]
        repeat (go_big_quiet_step (fail))
        refine wpQuiet_nil (hK _ ?_)
        clear hK K
        refine MixH.takes [false, false, false, true] 15 (by kernel_rfl) (by kernel_rfl) (by decide) (by kernel_rfl) hS (fun K hK => ?_)
        simp only [Mix.pick]
        repeat (go_big_quiet_step (fail))
        refine wpQuiet_nil (hK _ ?_)
        clear hK K
        refine MixH.takes [false, false, false, false, true] 14 (by kernel_rfl) (by kernel_rfl) (by decide) (by kernel_rfl) hS (fun K hK => ?_)
        simp only [Mix.pick]
        repeat (go_big_quiet_step (fail))
        refine wpQuiet_nil (hK _ ?_)
        clear hK K
        refine MixH.takes [false, false, false, false, false, true, true] 12 (by kernel_rfl) (by kernel_rfl) (by decide) (by kernel_rfl) hS (fun K hK => ?_)
        simp only [Mix.pick]
        repeat (go_big_quiet_step (fail))
        refine wpQuiet_nil (hK _ ?_)
        clear hK K
        refine MixH.takes [false, false, false, false, false, false, false, true] 11 (by kernel_rfl) (by kernel_rfl) (by decide) (by kernel_rfl) hS (fun K hK => ?_)
        simp only [Mix.pick]
        repeat (go_big_quiet_step (fail))
        refine wpQuiet_nil (hK _ ?_)
        clear hK K
        refine MixH.takes [false, false, false, false, false, false, false, false, true] 10 (by kernel_rfl) (by kernel_rfl) (by decide) (by kernel_rfl) hS (fun K hK => ?_)
        simp only [Mix.pick]
        repeat (go_big_quiet_step (fail))
        refine wpQuiet_nil (hK _ ?_)
        clear hK K
        refine MixH.take 9 9 _ (.int .i64 e.k.pt) rfl (by kernel_rfl) (by kernel_rfl) (by kernel_rfl) (by kernel_rfl) (yields_int (.tmp 26) rfl ⟨g, off + i * 21, none⟩ (.int .i64 e.k.pt) rfl rfl (fun A hA => hA.2 0 _ rfl)) hS (fun a' ha => ?_)
        simp only [Act.put, List.setIfInBounds_toArray, List.set_cons_succ, List.set_cons_zero] at ha
        subst ha
        refine MixH.takes [false, false, false, false, false, false, false, false, false, false, true, true] 7 (by kernel_rfl) (by kernel_rfl) (by decide) (by kernel_rfl) hS (fun K hK => ?_)
        simp only [Mix.pick]
        repeat (go_big_quiet_step (fail))
        refine wpQuiet_nil (hK _ ?_)
        clear hK K
        refine MixH.takes [false, false, false, false, false, false, false, false, false, false, false, false, true] 6 (by kernel_rfl) (by kernel_rfl) (by decide) (by kernel_rfl) hS (fun K hK => ?_)
        simp only [Mix.pick]
        repeat (go_big_quiet_step (fail))
        refine wpQuiet_nil (hK _ ?_)
        clear hK K
        refine MixH.takes [false, false, false, false, false, false, false, false, false, false, false, false, false, true] 5 (by kernel_rfl) (by kernel_rfl) (by decide) (by kernel_rfl) hS (fun K hK => ?_)
        simp only [Mix.pick]
        repeat (go_big_quiet_step (fail))
        refine wpQuiet_nil (hK _ ?_)
        clear hK K
        refine MixH.take 4 14 _ (.agg (ipCells e.k.V e.k.x)) rfl (by kernel_rfl) (by kernel_rfl) (by kernel_rfl) (by kernel_rfl) (yields_ipr (.tmp 31) rfl g (off + i * 21 + 1) e.k.V e.k.x rfl rfl (fun A hA => bv_ip hA.2)) hS (fun a' ha => ?_)
        simp only [Act.put, List.setIfInBounds_toArray, List.set_cons_succ, List.set_cons_zero] at ha
        subst ha
        refine MixH.takes [false, false, false, false, false, false, false, false, false, false, false, false, false, false, false, true] 3 (by kernel_rfl) (by kernel_rfl) (by decide) (by kernel_rfl) hS (fun K hK => ?_)
        simp only [Mix.pick]
        repeat (go_big_quiet_step (fail))
        refine wpQuiet_nil (hK _ ?_)
        clear hK K
        refine MixH.take 2 16 _ (.agg (ipCells k.V k.x)) rfl (by kernel_rfl) (by kernel_rfl) (by kernel_rfl) (by kernel_rfl) (yields_ipr (.tmp 5) rfl B 0 k.V k.x rfl rfl (fun A hA => hA.1.all)) hS (fun a' ha => ?_)
        simp only [Act.put, List.setIfInBounds_toArray, List.set_cons_succ, List.set_cons_zero] at ha
        subst ha
        refine MixH.one [false, false, false, false, false, false, false, false, false, false, false, false, false, false, false, false, false, true] 1 17 _ rfl rfl (by kernel_rfl) (by kernel_rfl) (fun K hK => ?_)
        simp only [Mix.pick]
        go_wp2_with fail
        refine Calls.mono (less_any e.k k HXX.out.1 HXX.out.2 wA) ?_
        rintro r0 wB ⟨bb, rfl, hbb, bB⟩
        replace hS : IprAt wB B k.V k.x ∧ wB.rangeAt g (off + i * 21) (bvC e).toList := ⟨hS.1.below bB, HRB.out wB (bthen HE0.out.2 bB)⟩
        have HE1 : Hid (IprAt wB B k.V k.x ∧ Below w.heap.size w wB) := ⟨hS.1, bthen HE0.out.2 bB⟩
        have HLT3 : Hid (bb = true ↔ lt3 e.k k) := hbb
        clear bB hbb HE0
        go_wp2_with fail
        refine ⟨rfl, hK _ _ hS ?_⟩
        clear hK K
        refine MixH.takes [false, false, false, false, false, false, false, false, false, false, false, false, false, false, false, false, false, false, true] 0 (by kernel_rfl) (by kernel_rfl) (by decide) (by kernel_rfl) hS (fun K hK => ?_)
        simp only [Mix.pick]
        repeat (go_big_quiet_step (fail))
        refine wpQuiet_nil (hK _ ?_)
        clear hK K
        refine MixH.done (by kernel_rfl) ?_
        clear hS
        cases bb with
        | true =>
          go_wp2
          go_roundw
          case rel => exact ⟨i + 1, by first | rfl | go_num, by have := HLT.out; omega, HE1, fun j f h1 h2 => by
            by_cases h : j = i
            · subst h
              rw [HEE.out] at h2
              cases h2
              exact HLT3.out.1 rfl
            · exact HNO.out j f (by omega) h2⟩
          case measure => have := HLT.out; simp [intOf]; omega
        | false =>
          go_wp2
          go_meet
          exact ⟨i, rfl, by have := HLT.out; omega, ⟨by have := HLT.out; have := HN.out.1; omega, HNO.out, fun f hf hl3 => by rw [HEE.out] at hf; cases hf; have := HLT3.out.2 hl3; cases this⟩, HE1.out.1, HE1.out.2⟩
      · have hni : ¬ ((i : Int) < (n : Int)) := by omega
        have HIN : Hid (i = n) := by have h : i = n := by omega
                                     exact h
        go_upto_region 5 with fail
        refine MixH.start (fun A => IprAt A B k.V k.x ∧ True) (by kernel_rfl) ?_
        obtain ⟨wA, hwA⟩ : ∃ wA, wA = wr.drew := ⟨_, rfl⟩
        have bdr : Below wr.heap.size wr wA := by rw [hwA]; exact (Below.refl _ _).drew
        have HE0 : Hid (IprAt wA B k.V k.x ∧ Below w.heap.size w wA) := ⟨HQ.out.1.below bdr, bthen HQ.out.2 bdr⟩
        have hS : IprAt wA B k.V k.x ∧ True := ⟨HE0.out.1, trivial⟩
        rw [← hwA]
        clear hwA bdr HQ
        refine MixH.takes [true, true] 17 (by kernel_rfl) (by kernel_rfl) (by decide) (by kernel_rfl) hS (fun K hK => ?_)
        simp only [Mix.pick]
        repeat (go_big_quiet_step (fail))
        refine wpQuiet_nil (hK _ ?_)
        clear hK K
        refine MixH.takes [false, false, true] 16 (by kernel_rfl) (by kernel_rfl) (by decide) (by kernel_rfl) hS (fun K hK => ?_)
        simp only [Mix.pick]
        repeat (go_big_quiet_step (fail))
        refine wpQuiet_nil (hK _ ?_)
        clear hK K
        refine MixH.takes [false, false, false, true] 15 (by kernel_rfl) (by kernel_rfl) (by decide) (by kernel_rfl) hS (fun K hK => ?_)
        simp only [Mix.pick]
        repeat (go_big_quiet_step (fail))
        refine wpQuiet_nil (hK _ ?_)
        clear hK K
        refine MixH.takes [false, false, false, false, true] 14 (by kernel_rfl) (by kernel_rfl) (by decide) (by kernel_rfl) hS (fun K hK => ?_)
        simp only [Mix.pick]
        repeat (go_big_quiet_step (fail))
        refine wpQuiet_nil (hK _ ?_)
        clear hK K
        refine MixH.take 13 5 _ (undef) rfl (by kernel_rfl) (by kernel_rfl) (by kernel_rfl) (by kernel_rfl) (.inr ⟨rfl, rfl⟩) hS (fun a' ha => ?_)
        simp only [Act.put, List.setIfInBounds_toArray, List.set_cons_succ, List.set_cons_zero] at ha
        subst ha
        refine MixH.take 12 6 _ (undef) rfl (by kernel_rfl) (by kernel_rfl) (by kernel_rfl) (by kernel_rfl) (.inr ⟨rfl, rfl⟩) hS (fun a' ha => ?_)
        simp only [Act.put, List.setIfInBounds_toArray, List.set_cons_succ, List.set_cons_zero] at ha
        subst ha
        refine MixH.take 11 7 _ (undef) rfl (by kernel_rfl) (by kernel_rfl) (by kernel_rfl) (by kernel_rfl) (.inr ⟨rfl, rfl⟩) hS (fun a' ha => ?_)
        simp only [Act.put, List.setIfInBounds_toArray, List.set_cons_succ, List.set_cons_zero] at ha
        subst ha
        refine MixH.take 10 8 _ (undef) rfl (by kernel_rfl) (by kernel_rfl) (by kernel_rfl) (by kernel_rfl) (.inr ⟨rfl, rfl⟩) hS (fun a' ha => ?_)
        simp only [Act.put, List.setIfInBounds_toArray, List.set_cons_succ, List.set_cons_zero] at ha
        subst ha
        refine MixH.take 9 9 _ (undef) rfl (by kernel_rfl) (by kernel_rfl) (by kernel_rfl) (by kernel_rfl) (.inr ⟨rfl, rfl⟩) hS (fun a' ha => ?_)
        simp only [Act.put, List.setIfInBounds_toArray, List.set_cons_succ, List.set_cons_zero] at ha
        subst ha
        refine MixH.take 8 10 _ (undef) rfl (by kernel_rfl) (by kernel_rfl) (by kernel_rfl) (by kernel_rfl) (.inr ⟨rfl, rfl⟩) hS (fun a' ha => ?_)
        simp only [Act.put, List.setIfInBounds_toArray, List.set_cons_succ, List.set_cons_zero] at ha
        subst ha
        refine MixH.take 7 11 _ (undef) rfl (by kernel_rfl) (by kernel_rfl) (by kernel_rfl) (by kernel_rfl) (.inr ⟨rfl, rfl⟩) hS (fun a' ha => ?_)
        simp only [Act.put, List.setIfInBounds_toArray, List.set_cons_succ, List.set_cons_zero] at ha
        subst ha
        refine MixH.take 6 12 _ (undef) rfl (by kernel_rfl) (by kernel_rfl) (by kernel_rfl) (by kernel_rfl) (.inr ⟨rfl, rfl⟩) hS (fun a' ha => ?_)
        simp only [Act.put, List.setIfInBounds_toArray, List.set_cons_succ, List.set_cons_zero] at ha
        subst ha
        refine MixH.take 5 13 _ (undef) rfl (by kernel_rfl) (by kernel_rfl) (by kernel_rfl) (by kernel_rfl) (.inr ⟨rfl, rfl⟩) hS (fun a' ha => ?_)
        simp only [Act.put, List.setIfInBounds_toArray, List.set_cons_succ, List.set_cons_zero] at ha
        subst ha
        refine MixH.take 4 14 _ (undef) rfl (by kernel_rfl) (by kernel_rfl) (by kernel_rfl) (by kernel_rfl) (.inr ⟨rfl, rfl⟩) hS (fun a' ha => ?_)
        simp only [Act.put, List.setIfInBounds_toArray, List.set_cons_succ, List.set_cons_zero] at ha
        subst ha
        refine MixH.take 3 15 _ (undef) rfl (by kernel_rfl) (by kernel_rfl) (by kernel_rfl) (by kernel_rfl) (.inr ⟨rfl, rfl⟩) hS (fun a' ha => ?_)
        simp only [Act.put, List.setIfInBounds_toArray, List.set_cons_succ, List.set_cons_zero] at ha
        subst ha
        refine MixH.take 2 16 _ (undef) rfl (by kernel_rfl) (by kernel_rfl) (by kernel_rfl) (by kernel_rfl) (.inr ⟨rfl, rfl⟩) hS (fun a' ha => ?_)
        simp only [Act.put, List.setIfInBounds_toArray, List.set_cons_succ, List.set_cons_zero] at ha
        subst ha
        refine MixH.take 1 17 _ (undef) rfl (by kernel_rfl) (by kernel_rfl) (by kernel_rfl) (by kernel_rfl) (.inr ⟨rfl, rfl⟩) hS (fun a' ha => ?_)
        simp only [Act.put, List.setIfInBounds_toArray, List.set_cons_succ, List.set_cons_zero] at ha
        subst ha
        refine MixH.takes [false, false, false, false, false, false, false, false, false, false, false, false, false, false, false, false, false, false, true] 0 (by kernel_rfl) (by kernel_rfl) (by decide) (by kernel_rfl) hS (fun K hK => ?_)
        simp only [Mix.pick]
        repeat (go_big_quiet_step (fail))
        refine wpQuiet_nil (hK _ ?_)
        clear hK K
        refine MixH.done (by kernel_rfl) ?_
        clear hS
        go_wp2
        go_meet
        exact ⟨i, rfl, by have := HIN.out; omega, ⟨by have := HIN.out; have := HN.out.1; omega, HNO.out, fun f hf => by have h1 := (List.getElem?_eq_some_iff.1 hf).1; have := HIN.out; have := HN.out.1; omega⟩, HE0.out.1, HE0.out.2⟩
  case rest =>
    obtain ⟨p, rfl, hp, HP⟩ := hcut
    clear H1
    have k0 : (0 : Int) ≤ (p : Int) := by omega
    have k2 : ((p : Int)).toNat = p := by omega
    have HPN : Hid (p ≤ n) := hp
    have HTK : Hid ((R.take p).length = p) := by show _ = _; have := HN.out; rw [List.length_take]; omega
    have HDR : Hid ((R.drop p).length = n - p) := by show _ = _; have := HN.out; rw [List.length_drop]; omega
    rcases HN.out.2.2.2.2 with ⟨hla, hlc0⟩ | ⟨g, off, hla⟩
    · subst hla
      subst hlc0
      have hR0 : R = [] := by
        rcases HER.out with h | ⟨b, o, h, _⟩
        · exact h
        · cases h
      have hn0 : n = 0 := by have := HN.out; omega
      have hp0 : p = 0 := by omega
      subst hn0
      subst hp0
      have HD0 : Hid (R = []) := hR0
      clear hR0
      go_wp2_with (first | (refine wpList_load_ipr (.tmp 5) rfl B k.V k.x rfl HP.out.2.1 rfl ?_) | (refine wpList_build_bv (.tmp 45) (.tmp 46) rfl k r HRE.out rfl rfl rfl ?_) | (refine wpList_bs1b (.tmp 47) rfl r rfl rfl ?_) | (refine wpList_app1c rfl (.tmp 44) (.tmp 48) rfl w.heap.size (.slice none 0 0) [] rfl (BL.nil _ _) wc.heap.size r rfl (bvr_new wc r) (by simp) (by have := HP.out.2.2.size; simp; omega) ?_))
      intro v2 w2 h2 g2 _
      have bz : Below wc.heap.size wc (wc.alloc (.cells (bvC r) 60)) := (Below.refl _ _).alloc (Nat.le_refl _) _
      have H2 : Hid (BL w2 w.heap.size v2 [r] ∧ Below w.heap.size w w2) := ⟨h2, (bthen HP.out.2.2 bz).trans (grown_below g2 (fun g hg => by cases hg) (bthen HP.out.2.2 bz).size)⟩
      clear h2 g2 bz
      go_wp2_with (first | (refine wpList_app_br rfl (.tmp 50) (.tmp 53) rfl w.heap.size v2 [r] rfl H2.out.1 none 0 0 [] rfl rfl (.inl rfl) (by simp) (by omega) H2.out.2.size ?_))
      intro v3 w3 h3 g3 _
      have HE : Hid (BL w3 w.heap.size v3 ([r] ++ []) ∧ Below w.heap.size w w3) := ⟨h3, H2.out.2.trans (grown_below g3 (fun g hg => (H2.out.1.cells g hg).1) H2.out.2.size)⟩
      clear h3 g3 H2
      go_wp2_with fail
      go_ret2
      refine ⟨HE.out.2, .inr ⟨HNF.out, v3, 0, rfl, HP.out.1, ?_⟩⟩
      have h := HE.out.1
      rw [HRE.out] at h
      rw [HD0.out]
      exact h
    · subst hla
      have k3 : p ≤ lc := by have := HN.out; omega
      have k4 : (p : Int) ≤ (lc : Int) := by omega
      have k5 : (p : Int) ≤ (n : Int) := by omega
      have hcc : n ≤ lc := HN.out.2.2.1
      have hcd : lc ≤ 9223372036854775807 := HN.out.2.2.2.1
      go_wp2_with (first | (refine wpList_app_br rfl (.tmp 39) (.tmp 42) rfl w.heap.size (.slice none 0 0) [] rfl (BL.nil _ _) (some ⟨g, off, none⟩) p lc (R.take p) rfl HTK.out ((HER.out.below HP.out.2.2).take p) (by simp) (by have := HN.out; have := HPN.out; omega) HP.out.2.2.size ?_))
      intro v1 w1 h1 g1 _
      have b1 : Below wc.heap.size wc w1 := grown_below g1 (fun g hg => by cases hg) (Nat.le_refl _)
      have bz : Below w1.heap.size w1 (w1.alloc (.cells (bvC r) 60)) := (Below.refl _ _).alloc (Nat.le_refl _) _
      have H1 : Hid (BL (w1.alloc (.cells (bvC r) 60)) w.heap.size v1 (R.take p) ∧ IprAt w1 B k.V k.x ∧ Below w.heap.size w w1 ∧ Below w.heap.size w (w1.alloc (.cells (bvC r) 60))) := ⟨BL.below h1 bz, HP.out.2.1.below b1, bthen HP.out.2.2 b1, bthen (bthen HP.out.2.2 b1) bz⟩
      clear h1 g1 b1 bz
      go_wp2_with (first | (refine wpList_load_ipr (.tmp 5) rfl B k.V k.x rfl H1.out.2.1 rfl ?_) | (refine wpList_build_bv (.tmp 45) (.tmp 46) rfl k r HRE.out rfl rfl rfl ?_) | (refine wpList_bs1b (.tmp 47) rfl r rfl rfl ?_) | (refine wpList_app1c rfl (.tmp 44) (.tmp 48) rfl w.heap.size v1 (R.take p) rfl H1.out.1 w1.heap.size r rfl (bvr_new w1 r) (by have := HN.out; rw [List.length_take]; omega) H1.out.2.2.2.size ?_))
      intro v2 w2 h2 g2 _
      have H2 : Hid (BL w2 w.heap.size v2 (R.take p ++ [r]) ∧ Below w.heap.size w w2) := ⟨h2, H1.out.2.2.2.trans (grown_below g2 (fun g hg => (H1.out.1.cells g hg).1) H1.out.2.2.2.size)⟩
      clear h2 g2 H1
      by_cases hlc : lc = p
      · have HD : Hid (R.drop p = []) := List.drop_of_length_le (by have := HN.out; have := HPN.out; omega)
        go_wp2_with (first | (refine wpList_app_br rfl (.tmp 50) (.tmp 53) rfl w.heap.size v2 (R.take p ++ [r]) rfl H2.out.1 (some ⟨g, off, none⟩) (n - p) 0 (R.drop p) rfl HDR.out (.inl HD.out) (by have := HN.out; have := HPN.out; rw [List.length_append, List.length_take]; simp; omega) (by have := HN.out; omega) H2.out.2.size ?_))
        intro v3 w3 h3 g3 _
        have HE : Hid (BL w3 w.heap.size v3 (R.take p ++ r :: R.drop p) ∧ Below w.heap.size w w3) := ⟨h3, H2.out.2.trans (grown_below g3 (fun g hg => (H2.out.1.cells g hg).1) H2.out.2.size)⟩
        clear h3 g3 H2
        go_wp2_with fail
        go_ret2
        exact ⟨HE.out.2, .inr ⟨HNF.out, v3, p, rfl, HP.out.1, by have h := HE.out.1; rw [HRE.out] at h; exact h⟩⟩
      · have hlc2 : ¬ lc - p = 0 := by have := HN.out; have := HPN.out; omega
        go_wp2_with (first | (refine wpList_app_br rfl (.tmp 50) (.tmp 53) rfl w.heap.size v2 (R.take p ++ [r]) rfl H2.out.1 (some ⟨g, off + p * 21, none⟩) (n - p) (lc - p) (R.drop p) rfl HDR.out ((HER.out.below H2.out.2).drop p) (by have := HN.out; have := HPN.out; rw [List.length_append, List.length_take]; simp; omega) (by have := HN.out; omega) H2.out.2.size ?_))
        intro v3 w3 h3 g3 _
        have HE : Hid (BL w3 w.heap.size v3 (R.take p ++ r :: R.drop p) ∧ Below w.heap.size w w3) := ⟨h3, H2.out.2.trans (grown_below g3 (fun g hg => (H2.out.1.cells g hg).1) H2.out.2.size)⟩
        clear h3 g3 H2
        go_wp2_with fail
        go_ret2
        exact ⟨HE.out.2, .inr ⟨HNF.out, v3, p, rfl, HP.out.1, by have h := HE.out.1; rw [HRE.out] at h; exact h⟩⟩
end Go.Proofs.Ytialefdojeddjaa
namespace Go.Proofs.Ytialefdojeddjaa
open Go.RowKit Go.Maps

/-- how often a neighbour was asked, and for how long it has been waited since; none: it is not being asked -/
def ak2 (E : List EV) (k : KV) : Option (Int × Int) := (fE E k).bind (fun e => if e.n.st = 1 ∨ e.n.st = 4 then some (e.n.tr, e.n.ag) else none)
theorem eqP_same {p q r : KV} (h : eqP p q = true) : eqP r p = eqP r q := by
  rw [Bool.eq_iff_iff]
  exact ⟨fun h1 => eqP_trans h1 h, fun h1 => eqP_trans h1 (by rw [eqP_comm]; exact h)⟩
theorem fE_eq {E : List EV} {p q : KV} (h : eqP p q = true) : fE E p = fE E q := by
  unfold fE
  congr 1
  funext e
  exact eqP_same h
theorem ak2_eq {E : List EV} {p q : KV} (h : eqP p q = true) : ak2 E p = ak2 E q := by unfold ak2; rw [fE_eq h]
theorem akB_ak2 (E : List EV) (k : KV) : akB E k = (ak2 E k).isSome := by
  unfold akB ak2
  cases h : fE E k with
  | none => rfl
  | some e =>
    simp only [Option.any_some, Option.bind_some]
    by_cases h1 : e.n.st = 1 ∨ e.n.st = 4
    · rw [if_pos h1]
      rcases h1 with h1 | h1 <;> simp [h1]
    · rw [if_neg h1]
      simp only [Option.isSome_none, Bool.or_eq_false_iff, beq_eq_false_iff_ne]
      exact ⟨fun h => h1 (.inl h), fun h => h1 (.inr h)⟩
theorem fE_upd {k q : KV} {e' : EV} (hk : eqP e'.n.k k = true) : ∀ E : List EV, fE (updE E k e') q = if eqP k q then (fE E q).map (fun _ => e') else fE E q
  | [] => by unfold updE fE; simp
  | a :: E => by
    have ih := fE_upd hk (q := q) E
    unfold updE fE at ih ⊢
    rw [List.map_cons, List.find?_cons, List.find?_cons]
    by_cases h1 : eqP a.n.k k = true
    · rw [if_pos h1]
      by_cases h2 : eqP k q = true
      · have h3 : eqP e'.n.k q = true := eqP_trans hk h2
        have h4 : eqP a.n.k q = true := eqP_trans h1 h2
        rw [h3, h4, if_pos h2]
        rfl
      · have h2' : eqP k q = false := by simpa using h2
        have h3 : eqP e'.n.k q = false := by
          rw [← h2', eqP_comm e'.n.k q, eqP_comm k q]
          exact eqP_same hk
        have h4 : eqP a.n.k q = false := by
          rw [← h2', eqP_comm a.n.k q, eqP_comm k q]
          exact eqP_same h1
        rw [h3, h4, if_neg h2]
        rw [if_neg h2] at ih
        exact ih
    · rw [if_neg h1]
      by_cases h2 : eqP a.n.k q = true
      · rw [h2]
        have h3 : ¬ eqP k q = true := fun h => h1 (by rw [eqP_same h]; exact h2)
        rw [if_neg h3]
      · have h2' : eqP a.n.k q = false := by simpa using h2
        rw [h2']
        exact ih
theorem fE_delq {k q : KV} : ∀ E : List EV, fE (delE E k) q = if eqP k q then none else fE E q
  | [] => by unfold delE fE; simp
  | a :: E => by
    have ih := fE_delq (k := k) (q := q) E
    unfold delE fE at ih ⊢
    rw [List.filter_cons]
    by_cases h1 : eqP a.n.k k = true
    · rw [if_neg (by rw [h1]; decide), ih]
      by_cases h2 : eqP k q = true
      · rw [if_pos h2, if_pos h2]
      · rw [if_neg h2, if_neg h2, List.find?_cons]
        have h2' : eqP k q = false := by simpa using h2
        have h4 : eqP a.n.k q = false := by
          rw [← h2', eqP_comm a.n.k q, eqP_comm k q]
          exact eqP_same h1
        rw [h4]
    · rw [if_pos (by simp [h1]), List.find?_cons, List.find?_cons, ih]
      by_cases h2 : eqP a.n.k q = true
      · rw [h2]
        have h3 : ¬ eqP k q = true := fun h => h1 (by rw [eqP_same h]; exact h2)
        simp [h3]
      · have h2' : eqP a.n.k q = false := by simpa using h2
        rw [h2']
theorem fE_snoc (E : List EV) (e : EV) (q : KV) : fE (E ++ [e]) q = (fE E q).or (if eqP e.n.k q then some e else none) := by
  unfold fE
  rw [List.find?_append, List.find?_cons]
  cases eqP e.n.k q <;> rfl
theorem fE_tick {c : CF} {q : KV} : ∀ {E : List EV}, Dj E → fE (E.filterMap (tickE c)) q = (fE E q).bind (tickE c)
  | [], _ => rfl
  | a :: E, d => by
    obtain ⟨d1, d2⟩ := List.pairwise_cons.1 d
    have ih := fE_tick (c := c) (q := q) d2
    have hnone : eqP a.n.k q = true → fE E q = none := fun h => by
      unfold fE
      rw [List.find?_eq_none]
      intro b hb
      have h1 := d1 b hb
      rw [← eqP_same (p := a.n.k) (q := q) h, eqP_comm, h1]
      decide
    unfold fE at ih hnone ⊢
    rw [List.find?_cons]
    cases hy : tickE c a with
    | none =>
      rw [List.filterMap_cons_none hy]
      by_cases h : eqP a.n.k q = true
      · rw [h, ih, hnone h]
        simp [hy]
      · have h' : eqP a.n.k q = false := by simpa using h
        rw [h', ih]
    | some y =>
      have hyk : y.n.k = a.n.k := by
        have := tickE_N c a
        rw [hy] at this
        exact tickN_k this.symm
      rw [List.filterMap_cons_some hy, List.find?_cons, hyk]
      by_cases h : eqP a.n.k q = true
      · rw [h]
        simp [hy]
      · have h' : eqP a.n.k q = false := by simpa using h
        rw [h', ih]
theorem add_ak2 {c : CF} {E E' : List EV} {e : EV} {er : Int} (d : Dj E) (h : AddR c E e er E') (hn : fE E e.n.k = none) (q : KV) : ak2 E' q = if er = 0 ∧ (e.n.st = 1 ∨ e.n.st = 4) ∧ eqP e.n.k q = true then some (e.n.tr, e.n.ag) else ak2 E q := by
  have key : ∀ E0 : List EV, fE E0 e.n.k = none → ak2 (E0 ++ [e]) q = if (e.n.st = 1 ∨ e.n.st = 4) ∧ eqP e.n.k q = true then some (e.n.tr, e.n.ag) else ak2 E0 q := fun E0 h0 => by
    unfold ak2
    rw [fE_snoc]
    by_cases hq : eqP e.n.k q = true
    · rw [if_pos hq, ← fE_eq hq, h0]
      simp only [Option.none_or, Option.bind_some, Option.bind_none, hq, and_true]
    · rw [if_neg hq, Option.or_none, if_neg (fun h => hq h.2)]
  rcases h with ⟨_, rfl, rfl⟩ | ⟨_, _, rfl, rfl⟩ | ⟨_, s, hs, rfl, rfl⟩
  · rw [key E hn]
    simp
  · rw [if_neg (fun h => by exact absurd h.1 (by decide))]
  · rw [key (delE E s.n.k) (by rw [fE_delq, hn]; simp)]
    have h1 : ak2 (delE E s.n.k) q = ak2 E q := by
      unfold ak2
      rw [fE_delq]
      by_cases hq : eqP s.n.k q = true
      · rw [if_pos hq]
        cases hf : fE E q with
        | none => rfl
        | some x =>
          by_cases hx : x.n.st = 1 ∨ x.n.st = 4
          · exfalso
            have h2 := fE_mem d hs.1 hq
            rw [hf] at h2
            cases h2
            have := hs.2.1
            omega
          · simp [hx]
      · rw [if_neg hq]
    rw [h1]
    simp
theorem want_ak2 {c : CF} {E E' : List EV} {k : KV} {item : Int} {m : Nat → Nat} {oc er : Int} (d : Dj E) (h : WantR c E k item E' m oc er) :
    (er = 0 ∧ (oc = 2 ∨ oc = 3) ∧ ∀ q, ak2 E' q = if eqP k q then some (1, 0) else ak2 E q) ∨ (¬ (er = 0 ∧ (oc = 2 ∨ oc = 3)) ∧ ∀ q, ak2 E' q = ak2 E q) := by
  rcases h with ⟨_, rfl, _, rfl, rfl⟩ | ⟨_, ⟨hf, e, he, ha, _, hoc⟩ | ⟨e, hf, h⟩⟩
  · exact .inr ⟨fun h => by omega, fun _ => rfl⟩
  · have hk : e.n.k = k := by rw [he]
    have h1 := add_ak2 d ha (by rw [hk]; exact hf)
    rw [he] at h1
    by_cases h0 : er = 0
    · rw [if_pos h0] at hoc
      refine .inl ⟨h0, .inr hoc, fun q => ?_⟩
      rw [h1 q]
      by_cases hq : eqP k q = true
      · rw [if_pos ⟨h0, .inl rfl, hq⟩, if_pos hq]
      · rw [if_neg (fun h => hq h.2.2), if_neg hq]
    · exact .inr ⟨fun h => h0 h.1, fun q => by rw [h1 q, if_neg (fun h => h0 h.1)]⟩
  · have he := fE_some hf
    rcases h with ⟨_, _, rfl, _, rfl, rfl⟩ | ⟨hs, _, ⟨lv', rfl⟩, _, rfl, rfl⟩ | ⟨hs, rfl, _, rfl, rfl⟩ | ⟨h1, h3, rfl, _, rfl, rfl⟩
    · exact .inr ⟨fun h => by omega, fun _ => rfl⟩
    · refine .inr ⟨fun h => by omega, fun q => ?_⟩
      unfold ak2
      rw [fE_upd (by exact he.2)]
      by_cases hq : eqP k q = true
      · rw [if_pos hq, ← fE_eq hq, hf]
        rfl
      · rw [if_neg hq]
    · refine .inl ⟨rfl, .inl rfl, fun q => ?_⟩
      unfold ak2
      rw [fE_upd (by exact he.2)]
      by_cases hq : eqP k q = true
      · rw [if_pos hq, if_pos hq, ← fE_eq hq, hf]
        rfl
      · rw [if_neg hq, if_neg hq]
    · exact .inr ⟨fun h => by omega, fun _ => rfl⟩
theorem learn_ak2 {c : CF} {E E' : List EV} {k : KV} {m : Nat → Nat} {how : Int} {v : Value} {l : List Int} {er : Int} (d : Dj E) (h : LearnR c E k m how E' v l er) :
    (∀ q, ak2 E' q = ak2 E q) ∨ ∀ q, ak2 E' q = if eqP k q then none else ak2 E q := by
  have upd : ∀ (e : EV) (s : Int) (lv : Value), fE E k = some e → s = 2 ∨ s = 3 → ∀ q, ak2 (updE E k ⟨{ e.n with m := m, st := s, ag := 0, tr := 0, ln := [] }, e.P, lv⟩) q = if eqP k q then none else ak2 E q := fun e s lv hf hs q => by
    have he := fE_some hf
    unfold ak2
    rw [fE_upd (by exact he.2)]
    by_cases hq : eqP k q = true
    · rw [if_pos hq, if_pos hq, ← fE_eq hq, hf]
      simp only [Option.map_some, Option.bind_some]
      rw [if_neg (by omega)]
    · rw [if_neg hq, if_neg hq]
  rcases h with ⟨_, rfl, _⟩ | ⟨_, ⟨hf, _, ⟨e, he, ha⟩, _⟩ | ⟨_, _, rfl, _⟩ | ⟨e, hf, ⟨_, rfl, _⟩ | ⟨_, _, rfl, _⟩ | ⟨_, _, rfl, _⟩⟩⟩
  · exact .inl fun _ => rfl
  · have hk : e.n.k = k := by rw [he]
    have h1 := add_ak2 d ha (by rw [hk]; exact hf)
    refine .inl fun q => ?_
    rw [h1 q, if_neg (fun h => by have := h.2.1; rw [he] at this; simp at this)]
  · exact .inl fun _ => rfl
  · exact .inr (upd e 2 _ hf (.inl rfl))
  · exact .inr (upd e 3 _ hf (.inr rfl))
  · exact .inl fun _ => rfl
def tk2 (c : CF) (p : Int × Int) : Option (Int × Int) := if p.2 + 1 = c.ev then (if p.1 < c.tr then some (p.1 + 1, 0) else none) else some (p.1, p.2 + 1)
theorem tick_ak2 {c : CF} {E : List EV} (d : Dj E) (q : KV) : ak2 (E.filterMap (tickE c)) q = (ak2 E q).bind (tk2 c) := by
  unfold ak2
  rw [fE_tick d]
  cases fE E q with
  | none => rfl
  | some e =>
    simp only [Option.bind_some]
    by_cases hs : e.n.st = 1 ∨ e.n.st = 4
    · rw [if_pos hs]
      have ha : agI e.n = e.n.ag + 1 := by unfold agI; rw [if_neg (by omega)]
      have ho : oldN c e.n = { e.n with ag := e.n.ag + 1 } := by unfold oldN; rw [if_neg (by omega), ha]
      have hd : dueB c e.n = decide (e.n.ag + 1 = c.ev) := by
        unfold dueB
        rw [ha]
        have : (e.n.st == 1 || e.n.st == 4) = true := by simpa using hs
        rw [this, Bool.true_and]
        rfl
      unfold tickE tkE
      rw [hd]
      simp only [Option.bind_some]
      unfold tk2
      have hn : (ag1 c e).n = { e.n with ag := e.n.ag + 1 } := ho
      by_cases h1 : e.n.ag + 1 = c.ev
      · rw [if_pos (by simpa using h1), if_pos h1, hn]
        by_cases h2 : e.n.tr < c.tr
        · rw [if_pos h2, if_pos h2]
          simp [hs]
        · rw [if_neg h2, if_neg h2]
          rfl
      · rw [if_neg (by simpa using h1), if_neg h1]
        simp only [Option.bind_some, hn]
        rw [if_pos hs]
    · rw [if_neg hs]
      have hd : dueB c e.n = false := by
        unfold dueB
        have : (e.n.st == 1 || e.n.st == 4) = false := by simpa using hs
        rw [this, Bool.false_and]
      unfold tickE
      rw [hd]
      simp only [Bool.false_eq_true, if_false, Option.bind_some]
      have hn : (ag1 c e).n = oldN c e.n := rfl
      rw [hn]
      unfold oldN
      split
      · simp
      · first
        | rfl
        | (rw [if_neg hs]; rfl)
/-- a row of the book and how its neighbour is being asked -/
def ROk (o : Option (Int × Int)) (now : Int) (b : BV) : Prop := (o = none ∧ b.ct = 0) ∨ ∃ tr ag, o = some (tr, ag) ∧ b.ct = tr ∧ 1 ≤ tr ∧ b.lt = now - ag
structure PInv (E : List EV) (now : Int) (L : List BV) : Prop where
  so : L.Pairwise (fun a b => lt3 a.k b.k)
  wf : ∀ b ∈ L, b.k.Wf
  ok : ∀ b ∈ L, ROk (ak2 E b.k) now b
  co : ∀ k, ak2 E k ≠ none → ∃ b ∈ L, eqP b.k k = true
theorem PInv.nil (now : Int) {E : List EV} (h : ∀ k, ak2 E k = none) : PInv E now [] := ⟨List.Pairwise.nil, fun b hb => (by cases hb), fun b hb => (by cases hb), fun k hk => absurd (h k) hk⟩
theorem PInv.same {E E' : List EV} {now : Int} {L : List BV} (h : PInv E now L) (hq : ∀ q, ak2 E' q = ak2 E q) : PInv E' now L := ⟨h.so, h.wf, fun b hb => by rw [hq]; exact h.ok b hb, fun k hk => h.co k (by rw [← hq]; exact hk)⟩
theorem set_so {L : List BV} (h : L.Pairwise (fun a b => lt3 a.k b.k)) {j : Nat} {b b' : BV} (hj : L[j]? = some b) (hk : b'.k = b.k) : (L.set j b').Pairwise (fun a b => lt3 a.k b.k) := by
  have h1 : (L.map (fun b => b.k)).Pairwise lt3 := List.pairwise_map.2 h
  refine List.pairwise_map.1 (?_ : ((L.set j b').map (fun b => b.k)).Pairwise lt3)
  obtain ⟨hl, he⟩ := List.getElem?_eq_some_iff.1 hj
  rw [List.map_set, hk, ← he, show (L.map (fun b => b.k)).set j L[j].k = L.map (fun b => b.k) from by
    have : L[j].k = (L.map (fun b => b.k))[j]'(by simpa using hl) := by rw [List.getElem_map]
    rw [this, List.set_getElem_self]]
  exact h1
/-- two rows with one key are one -/
theorem one_row {L : List BV} (h : L.Pairwise (fun a b => lt3 a.k b.k)) {i j : Nat} {a b : BV} (ha : L[i]? = some a) (hb : L[j]? = some b) (he : eqP a.k b.k = true) : i = j := by
  obtain ⟨h1, e1⟩ := List.getElem?_eq_some_iff.1 ha
  obtain ⟨h2, e2⟩ := List.getElem?_eq_some_iff.1 hb
  rcases Nat.lt_trichotomy i j with hl | hl | hl
  · have h3 := List.pairwise_iff_getElem.1 h i j h1 h2 hl
    rw [e1, e2] at h3
    have h4 := lt3_ne h3
    rw [he] at h4; cases h4
  · exact hl
  · have h3 := List.pairwise_iff_getElem.1 h j i h2 h1 hl
    rw [e1, e2] at h3
    have h4 := lt3_ne h3
    rw [eqP_comm, he] at h4; cases h4
/-- one row turned, as its neighbour was -/
theorem PInv.turn {E E' : List EV} {now : Int} {L : List BV} {k : KV} {j : Nat} {b b' : BV} {o : Option (Int × Int)} (h : PInv E now L) (hj : L[j]? = some b) (hb : eqP b.k k = true) (hk : b'.k = b.k) (hq : ∀ q, ak2 E' q = if eqP k q then o else ak2 E q) (ho : ROk o now b') : PInv E' now (L.set j b') := by
  have hm : ∀ y ∈ L.set j b', y = b' ∨ (y ∈ L ∧ eqP k y.k = false) := fun y hy => by
    obtain ⟨i, hi⟩ := List.mem_iff_getElem?.1 hy
    rw [List.getElem?_set] at hi
    by_cases hij : j = i
    · rw [if_pos hij] at hi
      split at hi
      · cases hi; exact .inl rfl
      · cases hi
    · rw [if_neg hij] at hi
      refine .inr ⟨List.mem_of_getElem? hi, ?_⟩
      cases hc : eqP k y.k with
      | false => rfl
      | true =>
        exact absurd (one_row h.so hj hi (eqP_trans hb hc)) hij
  refine ⟨set_so h.so hj hk, fun y hy => ?_, fun y hy => ?_, fun q hq' => ?_⟩
  · rcases hm y hy with rfl | ⟨h1, _⟩
    · rw [hk]; exact h.wf b (List.mem_of_getElem? hj)
    · exact h.wf y h1
  · rcases hm y hy with rfl | ⟨h1, h2⟩
    · rw [hq, hk, if_pos (by rw [eqP_comm]; exact hb)]
      exact ho
    · rw [hq, if_neg (by rw [h2]; decide)]
      exact h.ok y h1
  · have hl : j < L.length := (List.getElem?_eq_some_iff.1 hj).1
    have hin : b' ∈ L.set j b' := List.mem_of_getElem? (i := j) (by rw [List.getElem?_set, if_pos rfl, if_pos hl])
    by_cases hkq : eqP k q = true
    · exact ⟨b', hin, by rw [hk]; exact eqP_trans hb hkq⟩
    · rw [hq, if_neg hkq] at hq'
      obtain ⟨y, hy, hyq⟩ := h.co q hq'
      obtain ⟨i, hi⟩ := List.mem_iff_getElem?.1 hy
      by_cases hij : j = i
      · subst hij
        rw [hj] at hi
        cases hi
        exact ⟨b', hin, by rw [hk]; exact hyq⟩
      · exact ⟨y, List.mem_of_getElem? (i := i) (by rw [List.getElem?_set, if_neg hij]; exact hi), hyq⟩
/-- a new row -/
theorem PInv.add {E : List EV} {now : Int} {L : List BV} {k : KV} {p : Nat} (h : PInv E now L) (hk : k.Wf) (hn : ∀ r ∈ L, eqP r.k k = false) (hp : AtPb L k p) : PInv E now (L.take p ++ (⟨k, none, 0, 0, 0, 0⟩ : BV) :: L.drop p) := by
  have hm : ∀ y ∈ L.take p ++ (⟨k, none, 0, 0, 0, 0⟩ : BV) :: L.drop p, y ∈ L ∨ y = ⟨k, none, 0, 0, 0, 0⟩ := fun y hy => by
    rcases List.mem_append.1 hy with hy | hy
    · exact .inl (List.mem_of_mem_take hy)
    · rcases List.mem_cons.1 hy with hy | hy
      · exact .inr hy
      · exact .inl (List.mem_of_mem_drop hy)
  have hsub : ∀ y ∈ L, y ∈ L.take p ++ (⟨k, none, 0, 0, 0, 0⟩ : BV) :: L.drop p := fun y hy => by
    rw [← List.take_append_drop p L] at hy
    rcases List.mem_append.1 hy with hy | hy
    · exact List.mem_append.2 (.inl hy)
    · exact List.mem_append.2 (.inr (List.mem_cons_of_mem _ hy))
  have hno : ak2 E k = none := by
    cases hc : ak2 E k with
    | none => rfl
    | some x =>
      obtain ⟨b, hb, hbk⟩ := h.co k (by rw [hc]; simp)
      rw [hn b hb] at hbk; cases hbk
  refine ⟨?_, fun y hy => ?_, fun y hy => ?_, fun q hq => ?_⟩
  · rw [List.pairwise_append]
    refine ⟨h.so.sublist (List.take_sublist _ _), ?_, ?_⟩
    · rw [List.pairwise_cons]
      refine ⟨fun b hb => ?_, h.so.sublist (List.drop_sublist _ _)⟩
      have hpl : p < L.length := by
        refine Decidable.byContradiction (fun hc => ?_)
        rw [List.drop_of_length_le (by omega)] at hb
        cases hb
      have hx : lt3 k L[p].k := by
        have ha : L[p] ∈ L := List.getElem_mem hpl
        rcases tri L[p].k k (h.wf _ ha) hk with t | t | t
        · exact absurd t (hp.2.2 _ (List.getElem?_eq_getElem hpl))
        · exact t
        · rw [hn _ ha] at t; cases t
      rw [List.drop_eq_getElem_cons hpl] at hb
      rcases List.mem_cons.1 hb with rfl | hb
      · exact hx
      · have hd : (L.drop p).Pairwise (fun a b => lt3 a.k b.k) := h.so.sublist (List.drop_sublist _ _)
        rw [List.drop_eq_getElem_cons hpl, List.pairwise_cons] at hd
        exact lt3_trans hx (hd.1 b hb)
    · intro a ha b hb
      obtain ⟨j, hj, rfl⟩ := List.getElem_of_mem ha
      have hj' : j < p := by rw [List.length_take] at hj; omega
      have hjN : j < L.length := by have := hp.1; omega
      have haj : lt3 L[j].k k := hp.2.1 j _ hj' (List.getElem?_eq_getElem hjN)
      rw [List.getElem_take]
      rcases List.mem_cons.1 hb with rfl | hb
      · exact haj
      · obtain ⟨i, hi, rfl⟩ := List.getElem_of_mem hb
        rw [List.getElem_drop]
        exact List.pairwise_iff_getElem.1 h.so j (p + i) hjN (by rw [List.length_drop] at hi; omega) (by omega)
  · rcases hm y hy with h1 | rfl
    · exact h.wf y h1
    · exact hk
  · rcases hm y hy with h1 | rfl
    · exact h.ok y h1
    · exact .inl ⟨hno, rfl⟩
  · obtain ⟨b, hb, hbq⟩ := h.co q hq
    exact ⟨b, hsub b hb, hbq⟩
end Go.Proofs.Ytialefdojeddjaa
namespace Go.Proofs.Ytialefdojeddjaa
open Go.RowKit Go.Maps

/-- a row behind a tick -/
def dB (c : CF) (E' : List EV) (now : Int) (b : BV) : BV := if b.ct = 0 then b else if now - b.lt = c.ev then (if akB E' b.k then { b with lt := now, ct := b.ct + 1 } else { b with ct := 0 }) else b
/-- is it asked anew? -/
def dA (c : CF) (E' : List EV) (now : Int) (b : BV) : Bool := !(b.ct == 0) && (now - b.lt == c.ev) && akB E' b.k
/-- what the book says of a row behind a tick -/
structure DOk (c : CF) (E' : List EV) (now : Int) (b : BV) : Prop where
  z : b.ct = 0 → akB E' b.k = false
  a : b.ct ≠ 0 → now - b.lt ≤ c.ev ∧ akB E' b.k = !(decide (now - b.lt = c.ev) && decide (c.tr ≤ b.ct))
  lo : b.ct ≠ 0 → 0 ≤ now - b.lt ∧ 1 ≤ b.ct
theorem dB_k (c : CF) (E' : List EV) (now : Int) (b : BV) : (dB c E' now b).k = b.k := by unfold dB; split; rfl; split; split <;> rfl; rfl
theorem lt3_congr {p q r : KV} (h : eqP p q = true) (k : lt3 q r) : lt3 p r := by
  unfold eqP at h
  simp only [Bool.and_eq_true, beq_iff_eq] at h
  have hb := same_by16 _ _ h.2
  unfold lt3 cB at k ⊢
  rw [h.1.1, h.1.2, hb]
  exact k
section
variable {c : CF} {E : List EV} {now : Int} {L : List BV}
theorem ak2_nok (hok : EOk c E) {k : KV} {tr ag : Int} (h : ak2 E k = some (tr, ag)) : 0 ≤ ag ∧ ag < c.ev ∧ ∃ e, fE E k = some e ∧ e.n.tr = tr ∧ e.n.ag = ag ∧ (e.n.st = 1 ∨ e.n.st = 4) := by
  unfold ak2 at h
  cases hf : fE E k with
  | none => rw [hf] at h; cases h
  | some e =>
    rw [hf] at h
    simp only [Option.bind_some] at h
    split at h
    · rename_i hs
      simp only [Option.some.injEq, Prod.mk.injEq] at h
      have hn := hok.2 e (fE_some hf).1
      exact ⟨by have := hn.a0; omega, by have := hn.a1 hs; omega, e, rfl, h.1, h.2, hs⟩
    · cases h
theorem due_ok (d : Dj E) (hok : EOk c E) (h : PInv E now L) : ∀ b ∈ L, DOk c (E.filterMap (tickE c)) (now + 1) b := fun b hb => by
  have ht := tick_ak2 (c := c) d b.k
  rcases h.ok b hb with ⟨h1, h2⟩ | ⟨tr, ag, h1, h2, h3, h4⟩
  · rw [h1] at ht
    exact ⟨fun _ => by rw [akB_ak2, ht]; rfl, fun hc => absurd h2 hc, fun hc => absurd h2 hc⟩
  · obtain ⟨g1, g2, _⟩ := ak2_nok hok h1
    rw [h1] at ht
    simp only [Option.bind_some] at ht
    refine ⟨fun hc => by omega, fun _ => ⟨by omega, ?_⟩, fun _ => ⟨by omega, by omega⟩⟩
    rw [akB_ak2, ht]
    unfold tk2
    have e1 : now + 1 - b.lt = ag + 1 := by omega
    rw [e1, h2]
    by_cases hd : ag + 1 = c.ev
    · rw [if_pos hd, decide_eq_true hd, Bool.true_and]
      by_cases hl : tr < c.tr
      · rw [if_pos hl, decide_eq_false (by omega)]
        rfl
      · rw [if_neg hl, decide_eq_true (by omega)]
        rfl
    · rw [if_neg hd, decide_eq_false hd]
      rfl
theorem due_inv (d : Dj E) (h : PInv E now L) : PInv (E.filterMap (tickE c)) (now + 1) (L.map (dB c (E.filterMap (tickE c)) (now + 1))) := by
  refine ⟨?_, ?_, ?_, ?_⟩
  · rw [List.pairwise_map]
    refine List.Pairwise.imp (fun {a b} hab => ?_) h.so
    rw [dB_k, dB_k]
    exact hab
  · intro y hy
    obtain ⟨b, hb, rfl⟩ := List.mem_map.1 hy
    rw [dB_k]
    exact h.wf b hb
  · intro y hy
    obtain ⟨b, hb, rfl⟩ := List.mem_map.1 hy
    rw [dB_k]
    have ht := tick_ak2 (c := c) d b.k
    rcases h.ok b hb with ⟨h1, h2⟩ | ⟨tr, ag, h1, h2, h3, h4⟩
    · rw [h1] at ht
      refine .inl ⟨ht, ?_⟩
      unfold dB
      rw [if_pos h2]
      exact h2
    · rw [h1] at ht
      simp only [Option.bind_some] at ht
      have e1 : now + 1 - b.lt = ag + 1 := by omega
      unfold dB
      rw [if_neg (by omega), e1, akB_ak2, ht]
      unfold tk2
      by_cases hd : ag + 1 = c.ev
      · rw [if_pos hd, if_pos hd]
        by_cases hl : tr < c.tr
        · simp only [if_pos hl]
          exact .inr ⟨tr + 1, 0, rfl, by show b.ct + 1 = tr + 1; omega, by omega, by show now + 1 = now + 1 - 0; omega⟩
        · simp only [if_neg hl]
          exact .inl ⟨rfl, rfl⟩
      · rw [if_neg hd, if_neg hd]
        exact .inr ⟨tr, ag + 1, rfl, h2, h3, by omega⟩
  · intro k hk
    rw [tick_ak2 d] at hk
    obtain ⟨b, hb, hbk⟩ := h.co k (fun h0 => hk (by rw [h0]; rfl))
    exact ⟨_, List.mem_map_of_mem hb, by rw [dB_k]; exact hbk⟩
/-- two rising lists with the same keys go side by side -/
theorem side {α β : Type} (f : α → KV) (g : β → KV) : ∀ (xs : List α) (ys : List β), xs.Pairwise (fun a b => lt3 (f a) (f b)) → ys.Pairwise (fun a b => lt3 (g a) (g b)) → (∀ a ∈ xs, ∃ b ∈ ys, eqP (f a) (g b) = true) → (∀ b ∈ ys, ∃ a ∈ xs, eqP (f a) (g b) = true) → xs.length = ys.length ∧ ∀ (j : Nat) (a : α) (b : β), xs[j]? = some a → ys[j]? = some b → eqP (f a) (g b) = true
  | [], [], _, _, _, _ => ⟨rfl, fun j a b h => by simp at h⟩
  | [], b :: ys, _, _, _, h => by obtain ⟨a, ha, _⟩ := h b (by simp); cases ha
  | a :: xs, [], _, _, h, _ => by obtain ⟨b, hb, _⟩ := h a (by simp); cases hb
  | a :: xs, b :: ys, h1, h2, h3, h4 => by
    obtain ⟨a1, a2⟩ := List.pairwise_cons.1 h1
    obtain ⟨b1, b2⟩ := List.pairwise_cons.1 h2
    have hab : eqP (f a) (g b) = true := by
      obtain ⟨y, hy, hay⟩ := h3 a (by simp)
      rcases List.mem_cons.1 hy with rfl | hy
      · exact hay
      · obtain ⟨x, hx, hxb⟩ := h4 b (by simp)
        rcases List.mem_cons.1 hx with rfl | hx
        · exact hxb
        · exfalso
          -- f x ~ g b < g y ~ f a < f x
          have l1 : lt3 (f x) (g y) := lt3_congr hxb (b1 y hy)
          have l2 : lt3 (g y) (f x) := lt3_congr (by rw [eqP_comm]; exact hay) (a1 x hx)
          exact lt3_irr _ (lt3_trans l1 l2)
    have ih := side f g xs ys a2 b2 (fun x hx => by
      obtain ⟨y, hy, hxy⟩ := h3 x (List.mem_cons_of_mem _ hx)
      rcases List.mem_cons.1 hy with rfl | hy
      · have := lt3_ne (a1 x hx)
        rw [eqP_trans hab (by rw [eqP_comm]; exact hxy)] at this
        cases this
      · exact ⟨y, hy, hxy⟩) (fun y hy => by
      obtain ⟨x, hx, hxy⟩ := h4 y (List.mem_cons_of_mem _ hy)
      rcases List.mem_cons.1 hx with rfl | hx
      · have := lt3_ne (b1 y hy)
        rw [eqP_trans (by rw [eqP_comm]; exact hab) hxy] at this
        cases this
      · exact ⟨x, hx, hxy⟩)
    refine ⟨by simp [ih.1], fun j x y hx hy => ?_⟩
    cases j with
    | zero => simp at hx hy; rw [← hx, ← hy]; exact hab
    | succ j => exact ih.2 j x y (by simpa using hx) (by simpa using hy)
theorem due_e {e : EV} (h : dueB c e.n = true) : (e.n.st = 1 ∨ e.n.st = 4) ∧ e.n.ag + 1 = c.ev ∧ (ag1 c e).n = { e.n with ag := e.n.ag + 1 } := by
  unfold dueB at h
  simp only [Bool.and_eq_true, Bool.or_eq_true, beq_iff_eq] at h
  have ha : agI e.n = e.n.ag + 1 := by unfold agI; rw [if_neg (by omega)]
  refine ⟨h.1, by omega, ?_⟩
  show oldN c e.n = _
  unfold oldN
  rw [if_neg (by omega), ha]
theorem ask_in (d : Dj E) {Kd : List KV} (hp : Kd.Perm (dueL c E)) {a : AK} (ha : a ∈ asksL c (E.map (ag1 c)) Kd) : ∃ tr ag, ak2 E a.k = some (tr, ag) ∧ a.ty = tr + 1 ∧ tr < c.tr ∧ ag + 1 = c.ev ∧ a.k ∈ Kd := by
  obtain ⟨k, hk, hka⟩ := List.mem_filterMap.1 ha
  obtain ⟨e, he, rfl, hdu, hfe⟩ := due_fE d hp hk
  obtain ⟨g1, g2, g3⟩ := due_e hdu
  unfold askOf at hka
  rw [hfe] at hka
  simp only [Option.bind_some, g3] at hka
  split at hka
  · rename_i hlt
    cases hka
    refine ⟨e.n.tr, e.n.ag, ?_, rfl, hlt, g2, hk⟩
    unfold ak2
    rw [fE_mem d he (eqP_refl _)]
    simp [g1]
  · cases hka
theorem kd_lt (d : Dj E) (hw : ∀ e ∈ E, e.n.k.Wf) {Kd : List KV} (hp : Kd.Perm (dueL c E)) (hs : Kd.Pairwise (fun a b => 0 ≤ ordV b a)) : Kd.Pairwise lt3 := by
  have hdj : Kd.Pairwise (fun a b => eqP a b = false) := (hp.pairwise_iff (fun {a b} h => by rw [eqP_comm]; exact h)).2 (dueL_dj d)
  have hwf : ∀ k ∈ Kd, k.Wf := fun k hk => by obtain ⟨e, he, rfl, _⟩ := due_fE d hp hk; exact hw e he
  rw [List.pairwise_iff_getElem] at hdj hs ⊢
  intro i j hi hj hij
  rcases tri Kd[i] Kd[j] (hwf _ (List.getElem_mem hi)) (hwf _ (List.getElem_mem hj)) with t | t | t
  · exact t
  · have := (ord_lt _ _).2 t
    have := hs i j hi hj hij
    omega
  · rw [hdj i j hi hj hij] at t; cases t
theorem asks_side (d : Dj E) (hok : EOk c E) (hw : ∀ e ∈ E, e.n.k.Wf) (h : PInv E now L) {Kd : List KV} (hp : Kd.Perm (dueL c E)) (hs : Kd.Pairwise (fun a b => 0 ≤ ordV b a)) :
    (asksL c (E.map (ag1 c)) Kd).length = (L.filter (dA c (E.filterMap (tickE c)) (now + 1))).length ∧ ∀ (j : Nat) (a : AK) (b : BV), (asksL c (E.map (ag1 c)) Kd)[j]? = some a → (L.filter (dA c (E.filterMap (tickE c)) (now + 1)))[j]? = some b → eqP a.k b.k = true ∧ a.ty = b.ct + 1 := by
  have hF : ∀ b ∈ L.filter (dA c (E.filterMap (tickE c)) (now + 1)), b ∈ L ∧ ∃ tr ag, ak2 E b.k = some (tr, ag) ∧ b.ct = tr ∧ tr < c.tr ∧ ag + 1 = c.ev := fun b hb => by
    obtain ⟨h1, h2⟩ := List.mem_filter.1 hb
    unfold dA at h2
    simp only [Bool.and_eq_true, Bool.not_eq_true', beq_eq_false_iff_ne, beq_iff_eq] at h2
    rcases h.ok b h1 with ⟨_, g2⟩ | ⟨tr, ag, g1, g2, g3, g4⟩
    · exact absurd g2 h2.1.1
    · have hd : ag + 1 = c.ev := by omega
      refine ⟨h1, tr, ag, g1, g2, ?_, hd⟩
      have ht := tick_ak2 (c := c) d b.k
      rw [g1] at ht
      simp only [Option.bind_some] at ht
      unfold tk2 at ht
      rw [if_pos hd] at ht
      refine Decidable.byContradiction fun hl => ?_
      rw [if_neg hl] at ht
      have := h2.2
      rw [akB_ak2, ht] at this
      cases this
  have key := side (fun a : AK => a.k) (fun b : BV => b.k) (asksL c (E.map (ag1 c)) Kd) (L.filter (dA c (E.filterMap (tickE c)) (now + 1))) ?_ (h.so.sublist List.filter_sublist) ?_ ?_
  · refine ⟨key.1, fun j a b ha hb => ?_⟩
    have hq := key.2 j a b ha hb
    refine ⟨hq, ?_⟩
    obtain ⟨tr, ag, g1, g2, _⟩ := ask_in d hp (List.mem_of_getElem? ha)
    obtain ⟨_, tr', ag', f1, f2, _⟩ := hF b (List.mem_of_getElem? hb)
    rw [ak2_eq hq, f1] at g1
    cases g1
    omega
  · unfold asksL
    refine List.Pairwise.filterMap _ (fun a a' haa b hb b' hb' => ?_) (kd_lt d hw hp hs)
    have hkk : ∀ {k : KV} {x : AK}, askOf c (E.map (ag1 c)) k = some x → x.k = k := fun {k x} hx => by
      unfold askOf at hx
      cases hf : fE (E.map (ag1 c)) k with
      | none => rw [hf] at hx; cases hx
      | some e =>
        rw [hf] at hx
        simp only [Option.bind_some] at hx
        split at hx
        · cases hx; rfl
        · cases hx
    rw [hkk hb, hkk hb']
    exact haa
  · intro a ha
    obtain ⟨tr, ag, g1, g2, g3, g4, _⟩ := ask_in d hp ha
    obtain ⟨b, hb, hbk⟩ := h.co a.k (by rw [g1]; simp)
    refine ⟨b, List.mem_filter.2 ⟨hb, ?_⟩, by rw [eqP_comm]; exact hbk⟩
    have e1 : ak2 E b.k = some (tr, ag) := by rw [ak2_eq hbk]; exact g1
    rcases h.ok b hb with ⟨f1, _⟩ | ⟨tr', ag', f1, f2, f3, f4⟩
    · rw [e1] at f1; cases f1
    · rw [e1] at f1
      cases f1
      have ht := tick_ak2 (c := c) d b.k
      rw [e1] at ht
      simp only [Option.bind_some] at ht
      unfold tk2 at ht
      rw [if_pos g4, if_pos g3] at ht
      unfold dA
      rw [akB_ak2, ht]
      have h1 : (b.ct == 0) = false := by simp; omega
      have h2 : (now + 1 - b.lt == c.ev) = true := by simp; omega
      rw [h1, h2]
      rfl
  · intro b hb
    obtain ⟨_, tr, ag, g1, g2, g3, g4⟩ := hF b hb
    obtain ⟨_, _, e, f1, f2, f3, f4⟩ := ak2_nok hok g1
    obtain ⟨he, hek⟩ := fE_some f1
    have ha : agI e.n = e.n.ag + 1 := by unfold agI; rw [if_neg (by omega)]
    have hdu : dueB c e.n = true := by
      unfold dueB
      simp only [Bool.and_eq_true, Bool.or_eq_true, beq_iff_eq]
      exact ⟨f4, by omega⟩
    have hkd : e.n.k ∈ Kd := hp.mem_iff.2 (by unfold dueL; exact List.mem_map.2 ⟨e, List.mem_filter.2 ⟨he, hdu⟩, rfl⟩)
    obtain ⟨e', he', hk', _, hfe⟩ := due_fE d hp hkd
    obtain ⟨_, _, g5⟩ := due_e hdu
    have hee : e' = e := by
      have h1 := fE_mem d he' (eqP_refl _)
      have h2 := fE_mem d he (eqP_refl _)
      rw [← hk', h2] at h1
      exact (Option.some.inj h1).symm
    subst hee
    refine ⟨⟨e'.n.k, e'.n.m, e'.n.tr + 1⟩, List.mem_filterMap.2 ⟨e'.n.k, hkd, ?_⟩, hek⟩
    unfold askOf
    rw [hfe]
    simp only [Option.bind_some, g5]
    rw [if_pos (by omega)]
end
end Go.Proofs.Ytialefdojeddjaa
namespace Go.Proofs.Ytialefdojeddjaa
open Go.RowKit Go.Maps

theorem bcs_set1 (L : List BV) (i j : Nat) (b b' : BV) (v : Value) (hb : L[i]? = some b) (hj : j < 21) (hC : (bvC b).toList.set j v = (bvC b').toList) : (bcs L).set (i * 21 + j) v = bcs (L.set i b') := by
  obtain ⟨hi, he⟩ := List.getElem?_eq_some_iff.1 hb
  have e1 : (L.take i).length = i := by rw [List.length_take]; omega
  have l1 : (bcs (L.take i)).length = i * 21 := by rw [bcs_len, e1]
  have e2 : bcs L = bcs (L.take i) ++ ((bvC b).toList ++ bcs (L.drop (i + 1))) := by
    rw [← bcs_cons, ← he, ← List.drop_eq_getElem_cons hi, ← bcs_app, List.take_append_drop]
  have e3 : bcs (L.set i b') = bcs (L.take i) ++ ((bvC b').toList ++ bcs (L.drop (i + 1))) := by rw [List.set_eq_take_append_cons_drop, if_pos hi, bcs_app, bcs_cons]
  rw [e3, e2, List.set_append_right _ _ (by rw [l1]; omega), l1, show i * 21 + j - i * 21 = j by omega, List.set_append_left _ _ (by rw [bC_len]; exact hj), hC]
theorem BL.set1 {w : World} {base g n cap : Nat} {L : List BV} (h : BL w base (.slice (some ⟨g, 0, none⟩) n cap) L) (hn : L.length = n) {i j : Nat} {b b' : BV} {v : Value} (hb : L[i]? = some b) (hj : j < 21) (hC : (bvC b).toList.set j v = (bvC b').toList) : BL (w.setCell ⟨g, i * 21 + j, none⟩ v) base (.slice (some ⟨g, 0, none⟩) n cap) (L.set i b') := by
  subst hn
  have h1 : w.ownsRow base 60 21 (.slice (some ⟨g, 0, none⟩) L.length cap) L.length (bcs L) := h
  have h2 := (World.ownsRow.stored h1 (i * 21 + j) v).1
  rw [bcs_set1 L i j b b' v hb hj hC] at h2
  show World.ownsRow _ base 60 21 _ (L.set i b').length (bcs (L.set i b'))
  rw [List.length_set]
  exact h2
theorem BL.fz {w : World} {base g n cap : Nat} {L : List BV} (h : BL w base (.slice (some ⟨g, 0, none⟩) n cap) L) (j : Nat) : w.frozen? ⟨g, j, none⟩ = false := by
  obtain ⟨_, _, c, hc⟩ := h.cells g rfl
  simp [World.frozen?, hc]
theorem kind_ne' {A : World} {g D : Nat} {c1 c2 : Array Value} {t1 t2 : TypeId} (h1 : A.heap[g]? = some (.cells c1 t1 (0, 0))) (h2 : A.heap[D]? = some (.cells c2 t2 (0, 0))) (ht : t1 ≠ t2) : g ≠ D := fun e => by
  rw [e, h2] at h1
  simp only [Option.some.injEq, Obj.cells.injEq] at h1
  exact ht h1.2.1.symm
/-- due under way -/
structure DU (W : World) (t M : Nat) (d : CF) (E : List EV) (w0 : World) (B base : Nat) (v : Value) (K : List BV) (ab : Nat) (av : Value) (A : List AK) (X : World) : Prop where
  c : CfgAt X B d
  l : LSt W t M d E X
  b : BL X base v K
  a : AL X ab av A
  ch : Ch (fun q => v.ownBlock = some q) w0 X
section
variable {W : World} {t M : Nat} {d : CF} {E : List EV} {w0 : World} {B base : Nat} {v : Value} {K : List BV} {ab : Nat} {av : Value} {A : List AK} {X X' : World}
theorem DU.below (h : DU W t M d E w0 B base v K ab av A X) (b : Below X.heap.size X X') : DU W t M d E w0 B base v K ab av A X' := ⟨h.c.below b, h.l.below b, h.b.below b, h.a.below b, ch_then h.ch b⟩
theorem DU.set {g n cap i j : Nat} {b b' : BV} {u : Value} (h : DU W t M d E w0 B base (.slice (some ⟨g, 0, none⟩) n cap) K ab av A X) (hW : W.heap.size ≤ base) (hn : K.length = n) (hb : K[i]? = some b) (hj : j < 21) (hC : (bvC b).toList.set j u = (bvC b').toList) : DU W t M d E w0 B base (.slice (some ⟨g, 0, none⟩) n cap) (K.set i b') ab av A (X.setCell ⟨g, i * 21 + j, none⟩ u) := by
  have k : Ch (fun q => q = g) X (X.setCell ⟨g, i * 21 + j, none⟩ u) := (Ch.refl (fun q => q = g) X).set _ _ rfl
  obtain ⟨hg, _, cc, hcc⟩ := h.b.cells g rfl
  refine ⟨h.c.ch k (fun e => kind_ne' h.c hcc (by decide) e), h.l.ch k (fun q hq e => ?_) (fun q e => by have e' : q = g := e; omega), h.b.set1 hn hb hj hC, h.a.ch k (fun q hq e => ?_), h.ch.trans k (fun q _ e => by have e' : q = g := e; rw [e']; rfl)⟩
  · have e' : q = g := e
    exact cb_apart h.l.ca hcc (by decide) (by decide) (by decide) (by rw [← e']; exact hq)
  · obtain ⟨_, _, c2, h2⟩ := h.a.cells q hq
    exact kind_ne' h2 hcc (by decide) e
end
theorem yields_neq_ip {ops : Array Oper} {o : Oper} {a : Act} {S : World → Prop} (X Y : Operand) (ho : o.op = .binOp .neq 31 X Y 31) (V : Int) (x : Nat → Nat) (hx : a.eval X = .agg (ipCells V x)) (hy : a.eval Y = .agg (ipCells V x)) (hw : Region.wanted o (yielded ops a.tmps) = true) : YieldsIf Try.prog ops S o (.bool false) a := by
  refine .inl ⟨hw, fun w _ => ?_⟩
  obtain ⟨dst, op, type, pos, after, guard⟩ := o
  simp only at ho
  subst ho
  simp only [execOp, Sem.run_bind, Sem.run_pure, hx, hy, run_eqGuard_agg w .neq 31 _ _ _ _ Try.ipGuard, Result.andThen_ok, run_neq_struct, eqIPtop, same16_self, beq_self_eq_true, Bool.and_self, Bool.not_true]
theorem ip_same {p q : KV} (h : eqP p q = true) : p.pt = q.pt ∧ ipCells p.V p.x = ipCells q.V q.x := by
  unfold eqP at h
  simp only [Bool.and_eq_true, beq_iff_eq, same16, decide_eq_true_eq] at h
  obtain ⟨⟨h1, h2⟩, h3⟩ := h
  refine ⟨h1, ?_⟩
  simp only [ipCells, h2, h3]
theorem ak_ip {A : World} {g o : Nat} {r : AK} (h : A.rangeAt g o (akC r).toList) : A.rangeAt g (o + 1) (ipCells r.k.V r.k.x).toList := by
  intro i v hi
  have hl : i < 17 := (List.getElem?_eq_some_iff.1 hi).1
  have h2 : (akC r).toList[1 + i]? = some v := by
    have := lt20' (show i < 20 by omega)
    rcases this with rfl | rfl | rfl | rfl | rfl | rfl | rfl | rfl | rfl | rfl | rfl | rfl | rfl | rfl | rfl | rfl | rfl | rfl | rfl | rfl
    all_goals first | exact hi | omega
  have := h (1 + i) v h2
  rwa [← Nat.add_assoc] at this
/-- the first i rows turned -/
def upto (f : BV → BV) (L : List BV) (i : Nat) : List BV := (L.take i).map f ++ L.drop i
theorem upto_len (f : BV → BV) (L : List BV) (i : Nat) : (upto f L i).length = L.length := by unfold upto; rw [List.length_append, List.length_map, List.length_take, List.length_drop]; omega
theorem upto_at (f : BV → BV) {L : List BV} {i : Nat} {b : BV} (h : L[i]? = some b) : (upto f L i)[i]? = some b := by
  have hi := (List.getElem?_eq_some_iff.1 h).1
  unfold upto
  rw [List.getElem?_append_right (by rw [List.length_map, List.length_take]; omega), List.length_map, List.length_take, List.getElem?_drop, show i + (i - min i L.length) = i by omega]
  exact h
theorem upto_next (f : BV → BV) {L : List BV} {i : Nat} {b : BV} (h : L[i]? = some b) : (upto f L i).set i (f b) = upto f L (i + 1) := by
  obtain ⟨hi, he⟩ := List.getElem?_eq_some_iff.1 h
  unfold upto
  have e1 : ((L.take i).map f).length = i := by rw [List.length_map, List.length_take]; omega
  rw [List.set_append_right _ _ (by omega), e1, Nat.sub_self, List.drop_eq_getElem_cons hi, he, List.set_cons_zero, List.take_add_one, h, List.map_append]
  simp
theorem set_twice (L : List BV) (i : Nat) (a b : BV) : (L.set i a).set i b = L.set i b := by simp
end Go.Proofs.Ytialefdojeddjaa
namespace Go.Proofs.Ytialefdojeddjaa
open Go.RowKit Go.Maps

theorem LSt.base {W1 w x : World} {t M : Nat} {c : CF} {E : List EV} (h : LSt W1 t M c E x) (b : Below w.heap.size w W1) : LSt w t M c E x := ⟨h.ca, h.cf, h.ok, bthen b h.bel, fun q hq => Nat.le_trans b.size (h.out q hq)⟩
theorem BL.cap {w : World} {base : Nat} {v : Value} {L : List BV} (h : BL w base v L) : ∃ va vc, v = .slice va L.length vc ∧ BR w va L ∧ L.length ≤ vc ∧ vc ≤ 9223372036854775807 ∧ ((va = none ∧ vc = 0) ∨ ∃ g off, va = some ⟨g, off, none⟩) := by
  obtain ⟨va, vc, rfl, hBR⟩ := h.br
  rcases h.2 with ⟨e, h0⟩ | ⟨g, cap, cur, e, hb, hg, hnc, hcm, hcs, ht⟩
  · simp only [Value.slice.injEq] at e
    obtain ⟨rfl, h1, rfl⟩ := e
    exact ⟨none, 0, by rw [h1], hBR, by omega, by omega, .inl ⟨rfl, rfl⟩⟩
  · simp only [Value.slice.injEq] at e
    obtain ⟨rfl, _, rfl⟩ := e
    exact ⟨_, _, rfl, hBR, hnc, by unfold maxLen at hcm; omega, .inr ⟨g, 0, rfl⟩⟩
theorem BL.rng {A : World} {wb g n cap : Nat} {L : List BV} {j : Nat} {e : BV} (h : BL A wb (.slice (some ⟨g, 0, none⟩) n cap) L) (hr : L[j]? = some e) : A.rangeAt g (j * 21) (bvC e).toList := by
  obtain ⟨g', cap', hv, _, _, hrg⟩ := h.at j e hr
  simp only [Value.slice.injEq, Option.some.injEq, Addr.mk.injEq, and_true] at hv
  rw [hv.1]
  exact hrg
theorem BL.not {A : World} {t M b : Nat} {c : CF} {E : List EV} {v : Value} {L : List BV} (h : BL A b v L) (hc : CA A t M c E) : ∀ g, v.ownBlock = some g → ¬ CB t M E g := fun g hg => by
  obtain ⟨_, _, cc, hcc⟩ := h.cells g hg
  exact cb_apart hc hcc (by decide) (by decide) (by decide)
/-- the cache (entries Ec) and the book, which speaks of the entries Ep -/
structure PT (w : World) (t M : Nat) (d : CF) (B : Nat) (Ec Ep : List EV) (now : Int) (L : List BV) (v : Value) (X : World) : Prop where
  c : CfgAt X B d
  l : LSt w t M d Ec X
  b : BL X w.heap.size v L
  i : PInv Ep now L
section
variable {w : World} {t M : Nat} {d : CF} {B : Nat} {Ec Ep : List EV} {now : Int} {L : List BV} {v : Value} {X X' : World}
theorem PT.below (h : PT w t M d B Ec Ep now L v X) (b : Below X.heap.size X X') : PT w t M d B Ec Ep now L v X' := ⟨h.c.below b, h.l.below b, h.b.below b, h.i⟩
theorem PT.cache {E' : List EV} (h : PT w t M d B Ec Ep now L v X) (hl : LSt w t M d E' X') (k : Ch (CB t M Ec) X X') : PT w t M d B E' Ep now L v X' := ⟨h.c.ch k (h.c.not h.l.ca), hl, h.b.ch k (h.b.not h.l.ca), h.i⟩
theorem PT.inv {Ep' : List EV} {now' : Int} (h : PT w t M d B Ec Ep now L v X) (hi : PInv Ep' now' L) : PT w t M d B Ec Ep' now' L v X := ⟨h.c, h.l, h.b, hi⟩
/-- a row's cell written -/
theorem PT.set {g n cap i j : Nat} {b b' : BV} {u : Value} {Ep' : List EV} {now' : Int} (h : PT w t M d B Ec Ep now L (.slice (some ⟨g, 0, none⟩) n cap) X) (hn : L.length = n) (hb : L[i]? = some b) (hj : j < 21) (hC : (bvC b).toList.set j u = (bvC b').toList) (hi : PInv Ep' now' (L.set i b')) : PT w t M d B Ec Ep' now' (L.set i b') (.slice (some ⟨g, 0, none⟩) n cap) (X.setCell ⟨g, i * 21 + j, none⟩ u) := by
  have k : Ch (fun q => q = g) X (X.setCell ⟨g, i * 21 + j, none⟩ u) := (Ch.refl (fun q => q = g) X).set _ _ rfl
  obtain ⟨hg, _, cc, hcc⟩ := h.b.cells g rfl
  refine ⟨h.c.ch k (fun e => kind_ne' h.c hcc (by decide) e), h.l.ch k (fun q hq e => ?_) (fun q e => by have e' : q = g := e; omega), h.b.set1 hn hb hj hC, hi⟩
  have e' : q = g := e
  exact cb_apart h.l.ca hcc (by decide) (by decide) (by decide) (by rw [← e']; exact hq)
/-- two cells of a row written, one behind the other -/
theorem PT.set2 {g n cap i : Nat} {b : BV} {x y : Int} {Ep' : List EV} {now' : Int} (h : PT w t M d B Ec Ep now L (.slice (some ⟨g, 0, none⟩) n cap) X) (hn : L.length = n) (hb : L[i]? = some b) (hi : PInv Ep' now' (L.set i { b with lt := x, ct := y })) : PT w t M d B Ec Ep' now' (L.set i { b with lt := x, ct := y }) (.slice (some ⟨g, 0, none⟩) n cap) ((X.setCell ⟨g, i * 21 + 19, none⟩ (.int .i64 x)).setCell ⟨g, i * 21 + 20, none⟩ (.int .i64 y)) := by
  have k : Ch (fun q => q = g) X ((X.setCell ⟨g, i * 21 + 19, none⟩ (.int .i64 x)).setCell ⟨g, i * 21 + 20, none⟩ (.int .i64 y)) := ((Ch.refl (fun q => q = g) X).set _ _ rfl).set _ _ rfl
  obtain ⟨hg, _, cc, hcc⟩ := h.b.cells g rfl
  have hul := (List.getElem?_eq_some_iff.1 hb).1
  have h1 := h.b.set1 (b' := { b with lt := x }) (v := .int .i64 x) (j := 19) hn hb (by omega) rfl
  have h2 := h1.set1 (b := { b with lt := x }) (b' := { b with lt := x, ct := y }) (v := .int .i64 y) (j := 20) (by rw [List.length_set]; exact hn) (by rw [List.getElem?_set, if_pos rfl, if_pos hul]) (by omega) rfl
  rw [set_twice] at h2
  refine ⟨h.c.ch k (fun e => kind_ne' h.c hcc (by decide) e), h.l.ch k (fun q hq e => ?_) (fun q e => by have e' : q = g := e; omega), h2, hi⟩
  have e' : q = g := e
  exact cb_apart h.l.ca hcc (by decide) (by decide) (by decide) (by rw [← e']; exact hq)
/-- row, of the book under way -/
def PRow (w : World) (t M : Nat) (d : CF) (B : Nat) (Ec Ep : List EV) (now : Int) (n0 : Nat) (k : KV) (X : World) (r : Ending) (X' : World) : Prop :=
  ∃ (g n cap : Nat) (L1 : List BV) (j : Nat) (b : BV), r = .returned (.tuple #[.slice (some ⟨g, 0, none⟩) n cap, .int .i64 (j : Int)]) ∧ PT w t M d B Ec Ep now L1 (.slice (some ⟨g, 0, none⟩) n cap) X' ∧ L1.length = n ∧ n ≤ n0 + 1 ∧ L1[j]? = some b ∧ eqP b.k k = true ∧ Below X.heap.size X X'
theorem PT.row (h : PT w t M d B Ec Ep now L v X) {la : Option Addr} {n lc : Nat} (hv : v = .slice la n lc) (hl : n ≤ 1048576) (k : KV) (hk : k.Wf) : Calls Try.prog 24 #[.slice la n lc, .int .i64 k.pt, .agg (ipCells k.V k.x)] X fun r X' => PRow w t M d B Ec Ep now n k X r X' := by
  obtain ⟨va, vc, hv', hBR, h1, h2, h3⟩ := h.b.cap
  rw [hv] at hv'
  simp only [Value.slice.injEq] at hv'
  obtain ⟨rfl, hn, rfl⟩ := hv'
  refine (row_any la n lc L k X hBR hn.symm hl (by omega) h2 h3 h.i.wf hk).mono ?_
  rintro r X' ⟨b, ⟨i, e, hi, he, rfl⟩ | ⟨hno, v1, p, rfl, hp, hBL⟩⟩
  · obtain ⟨g, cap, hg, _⟩ := h.b.at i e hi
    rw [hv] at hg
    simp only [Value.slice.injEq] at hg
    obtain ⟨rfl, _, rfl⟩ := hg
    have hb := h.below b
    rw [hv] at hb
    exact ⟨g, n, lc, L, i, e, rfl, hb, hn.symm, by omega, hi, he, b⟩
  · have hat : (L.take p ++ (⟨k, none, 0, 0, 0, 0⟩ : BV) :: L.drop p)[p]? = some ⟨k, none, 0, 0, 0, 0⟩ := by
      have e1 : (L.take p).length = p := by rw [List.length_take]; have := hp.1; omega
      rw [List.getElem?_append_right (by omega), e1, Nat.sub_self]
      rfl
    obtain ⟨g, cap, hg, _⟩ := hBL.at p _ hat
    have hlen : (L.take p ++ (⟨k, none, 0, 0, 0, 0⟩ : BV) :: L.drop p).length = n + 1 := by
      rw [List.length_append, List.length_cons, List.length_take, List.length_drop]
      have := hp.1
      omega
    subst hg
    have hb := h.below b
    refine ⟨g, _, cap, _, p, _, rfl, ⟨hb.c, hb.l, BL.mono hBL h.l.bel.size, h.i.add hk hno hp⟩, rfl, by omega, hat, eqP_refl k, b⟩
end
end Go.Proofs.Ytialefdojeddjaa
namespace Go.Proofs.Ytialefdojeddjaa
open Go.RowKit Go.Maps

/-- the items that wait for a neighbour -/
def lnE (E : List EV) (q : KV) : List Int := ((fE E q).map (fun e => e.n.ln)).getD []
theorem lnE_eq {E : List EV} {p q : KV} (h : eqP p q = true) : lnE E p = lnE E q := by unfold lnE; rw [fE_eq h]
theorem lnE_some {E : List EV} {q : KV} {e : EV} (h : fE E q = some e) : lnE E q = e.n.ln := by unfold lnE; rw [h]; rfl
theorem lnE_none {E : List EV} {q : KV} (h : fE E q = none) : lnE E q = [] := by unfold lnE; rw [h]; rfl
theorem add_ln {c : CF} {E E' : List EV} {e : EV} {er : Int} (d : Dj E) (hok : EOk c E) (h : AddR c E e er E') (hn : fE E e.n.k = none) (q : KV) : lnE E' q = if er = 0 ∧ eqP e.n.k q = true then e.n.ln else lnE E q := by
  have key : ∀ E0 : List EV, fE E0 e.n.k = none → lnE (E0 ++ [e]) q = if eqP e.n.k q = true then e.n.ln else lnE E0 q := fun E0 h0 => by
    unfold lnE
    rw [fE_snoc]
    by_cases hq : eqP e.n.k q = true
    · rw [if_pos hq, if_pos hq, ← fE_eq hq, h0]; rfl
    · rw [if_neg hq, if_neg hq, Option.or_none]
  rcases h with ⟨_, rfl, rfl⟩ | ⟨_, _, rfl, rfl⟩ | ⟨_, s, hs, rfl, rfl⟩
  · rw [key E hn]; simp
  · rw [if_neg (fun h => absurd h.1 (by decide))]
  · rw [key _ (fE_del hn)]
    have hs0 : lnE (delE E s.n.k) q = lnE E q := by
      by_cases hq : eqP s.n.k q = true
      · rw [lnE_some (fE_mem d hs.1 hq), lnE_none (by rw [fE_delq, if_pos hq])]
        have h2 := (hok.2 s hs.1).aw
        have h3 := hs.2.1
        refine Decidable.byContradiction fun hl => ?_
        have := h2.2 (fun h => hl h.symm)
        omega
      · unfold lnE
        rw [fE_delq, if_neg hq]
    rw [hs0]; simp
theorem want_ln {c : CF} {E E' : List EV} {k : KV} {item : Int} {m : Nat → Nat} {oc er : Int} (d : Dj E) (hok : EOk c E) (h : WantR c E k item E' m oc er) :
    (er = 0 ∧ (oc = 3 ∨ oc = 4) ∧ ∀ q, lnE E' q = if eqP k q then lnE E k ++ [item] else lnE E q) ∨ (¬ (er = 0 ∧ (oc = 3 ∨ oc = 4)) ∧ ∀ q, lnE E' q = lnE E q) := by
  rcases h with ⟨_, rfl, _, rfl, rfl⟩ | ⟨_, ⟨hf, e, he, ha, _, hoc⟩ | ⟨e, hf, h⟩⟩
  · exact .inr ⟨fun h => by omega, fun _ => rfl⟩
  · have hk : e.n.k = k := by rw [he]
    have h1 := add_ln d hok ha (by rw [hk]; exact hf)
    rw [he] at h1
    by_cases h0 : er = 0
    · rw [if_pos h0] at hoc
      refine .inl ⟨h0, .inl hoc, fun q => ?_⟩
      rw [h1 q, lnE_none hf]
      by_cases hq : eqP k q = true
      · rw [if_pos ⟨h0, hq⟩, if_pos hq]; rfl
      · rw [if_neg (fun h => hq h.2), if_neg hq]
    · exact .inr ⟨fun h => h0 h.1, fun q => by rw [h1 q, if_neg (fun h => h0 h.1)]⟩
  · have he := fE_some hf
    rcases h with ⟨_, _, rfl, _, rfl, rfl⟩ | ⟨hs, _, ⟨lv', rfl⟩, _, rfl, rfl⟩ | ⟨hs, rfl, _, rfl, rfl⟩ | ⟨h1, h3, rfl, _, rfl, rfl⟩
    · exact .inr ⟨fun h => by omega, fun _ => rfl⟩
    · refine .inl ⟨rfl, .inr rfl, fun q => ?_⟩
      rw [lnE_some hf]
      unfold lnE
      rw [fE_upd (by exact he.2)]
      by_cases hq : eqP k q = true
      · rw [if_pos hq, if_pos hq, ← fE_eq hq, hf]; rfl
      · rw [if_neg hq, if_neg hq]
    · refine .inr ⟨fun h => by omega, fun q => ?_⟩
      unfold lnE
      rw [fE_upd (by exact he.2)]
      by_cases hq : eqP k q = true
      · rw [if_pos hq, ← fE_eq hq, hf]; rfl
      · rw [if_neg hq]
    · exact .inr ⟨fun h => by omega, fun _ => rfl⟩
theorem learn_ln {c : CF} {E E' : List EV} {k : KV} {m : Nat → Nat} {how : Int} {v : Value} {l : List Int} {er : Int} (d : Dj E) (hok : EOk c E) (h2 : E2 E) (h : LearnR c E k m how E' v l er) :
    (er = 0 ∧ l = lnE E k ∧ ∀ q, lnE E' q = if eqP k q then [] else lnE E q) ∨ (er ≠ 0 ∧ l = [] ∧ ∀ q, lnE E' q = lnE E q) := by
  have upd : ∀ (e : EV) (s : Int) (lv : Value), fE E k = some e → ∀ q, lnE (updE E k ⟨{ e.n with m := m, st := s, ag := 0, tr := 0, ln := [] }, e.P, lv⟩) q = if eqP k q then [] else lnE E q := fun e s lv hf q => by
    have he := fE_some hf
    unfold lnE
    rw [fE_upd (by exact he.2)]
    by_cases hq : eqP k q = true
    · rw [if_pos hq, if_pos hq, ← fE_eq hq, hf]; rfl
    · rw [if_neg hq, if_neg hq]
  have no : lnE E k = [] → ∀ q, lnE E q = if eqP k q then [] else lnE E q := fun h0 q => by
    by_cases hq : eqP k q = true
    · rw [if_pos hq, ← lnE_eq hq, h0]
    · rw [if_neg hq]
  rcases h with ⟨_, rfl, _, rfl, rfl⟩ | ⟨hb, ⟨hf, _, ⟨e, he, ha⟩, _, rfl⟩ | ⟨hf, _, rfl, _, rfl, rfl⟩ | ⟨e, hf, ⟨_, rfl, _, rfl, rfl⟩ | ⟨_, _, rfl, _, rfl, rfl⟩ | ⟨_, hs, hE, _, rfl, rfl⟩⟩⟩
  · exact .inr ⟨by decide, rfl, fun _ => rfl⟩
  · have hk : e.n.k = k := by rw [he]
    have h1 := add_ln d hok ha (by rw [hk]; exact hf)
    rw [he] at h1
    by_cases h0 : er = 0
    · refine .inl ⟨h0, (lnE_none hf).symm, fun q => ?_⟩
      rw [h1 q]
      by_cases hq : eqP k q = true
      · rw [if_pos ⟨h0, hq⟩, if_pos hq]
      · rw [if_neg (fun h => hq h.2), if_neg hq]
    · exact .inr ⟨h0, rfl, fun q => by rw [h1 q, if_neg (fun h => h0 h.1)]⟩
  · exact .inl ⟨rfl, (lnE_none hf).symm, no (lnE_none hf)⟩
  · exact .inl ⟨rfl, (lnE_some hf).symm, upd e 2 _ hf⟩
  · exact .inl ⟨rfl, (lnE_some hf).symm, upd e 3 _ hf⟩
  · have he := (fE_some hf).1
    have h0 : lnE E k = [] := by
      rw [lnE_some hf]
      refine Decidable.byContradiction fun hl => ?_
      have h3 := (h2 e he).m0 ((hok.2 e he).aw.2 hl)
      rw [h3] at hs
      unfold lB mB at hb
      have : same6 m mz = true := by
        unfold same6 at hs ⊢
        simp only [decide_eq_true_eq] at hs ⊢
        obtain ⟨a0, a1, a2, a3, a4, a5⟩ := hs
        exact ⟨a0.symm, a1.symm, a2.symm, a3.symm, a4.symm, a5.symm⟩
      rw [this] at hb
      simp at hb
    rw [hE]
    exact .inl ⟨rfl, h0.symm, no h0⟩
theorem tickE_ln {c : CF} {e y : EV} (h : tickE c e = some y) : y.n.ln = e.n.ln := by
  have ha : (ag1 c e).n.ln = e.n.ln := oldN_ln c e.n
  unfold tickE tkE at h
  split at h
  · split at h
    · cases h; exact ha
    · cases h
  · cases h; exact ha
theorem tick_ln {c : CF} {E : List EV} (d : Dj E) (q : KV) : lnE (E.filterMap (tickE c)) q = if (fE (E.filterMap (tickE c)) q).isSome then lnE E q else [] := by
  cases hy : fE (E.filterMap (tickE c)) q with
  | none => rw [lnE_none hy]; rfl
  | some y =>
    rw [lnE_some hy]
    rw [fE_tick d] at hy
    cases hf : fE E q with
    | none => rw [hf] at hy; cases hy
    | some e =>
      rw [hf] at hy
      rw [lnE_some hf]
      exact tickE_ln hy
/-- a row of the book and the items that it holds -/
structure IR where
  b : BV
  it : List Int
abbrev IR.k (r : IR) : KV := r.b.k
def irp (r : IR) (la : Option Addr) (n lc : Nat) (it : List Int) : IR := ⟨⟨r.b.k, la, n, lc, r.b.lt, r.b.ct⟩, it⟩
def irz (k : KV) : IR := ⟨⟨k, none, 0, 0, 0, 0⟩, []⟩
def AtPi (R : List IR) (k : KV) (p : Nat) : Prop := p ≤ R.length ∧ (∀ j r, j < p → R[j]? = some r → lt3 r.k k) ∧ ∀ r, R[p]? = some r → ¬ lt3 r.k k
theorem AtPi.of {R : List IR} {k : KV} {p : Nat} (h : AtPb (R.map IR.b) k p) : AtPi R k p :=
  ⟨by have := h.1; rwa [List.length_map] at this, fun j r hj hr => h.2.1 j r.b hj (by rw [List.getElem?_map, hr]; rfl), fun r hr => h.2.2 r.b (by rw [List.getElem?_map, hr]; rfl)⟩
structure IInv (E : List EV) (L : List IR) : Prop where
  so : L.Pairwise (fun a b => lt3 a.k b.k)
  wf : ∀ b ∈ L, b.k.Wf
  ok : ∀ b ∈ L, b.it = lnE E b.k
  co : ∀ k, lnE E k ≠ [] → ∃ b ∈ L, eqP b.k k = true
theorem IInv.nil {E : List EV} (h : ∀ k, lnE E k = []) : IInv E [] := ⟨List.Pairwise.nil, fun b hb => (by cases hb), fun b hb => (by cases hb), fun k hk => absurd (h k) hk⟩
theorem IInv.same {E E' : List EV} {L : List IR} (h : IInv E L) (hq : ∀ q, lnE E' q = lnE E q) : IInv E' L := ⟨h.so, h.wf, fun b hb => by rw [hq]; exact h.ok b hb, fun k hk => h.co k (by rw [← hq]; exact hk)⟩
theorem iset_so {L : List IR} (h : L.Pairwise (fun a b => lt3 a.k b.k)) {j : Nat} {b b' : IR} (hj : L[j]? = some b) (hk : b'.k = b.k) : (L.set j b').Pairwise (fun a b => lt3 a.k b.k) := by
  have h1 : (L.map (fun b => b.k)).Pairwise lt3 := List.pairwise_map.2 h
  refine List.pairwise_map.1 (?_ : ((L.set j b').map (fun b => b.k)).Pairwise lt3)
  obtain ⟨hl, he⟩ := List.getElem?_eq_some_iff.1 hj
  rw [List.map_set, hk, ← he, show (L.map (fun b => b.k)).set j L[j].k = L.map (fun b => b.k) from by
    have : L[j].k = (L.map (fun b => b.k))[j]'(by simpa using hl) := by rw [List.getElem_map]
    rw [this, List.set_getElem_self]]
  exact h1
/-- two rows with one key are one -/
theorem ione_row {L : List IR} (h : L.Pairwise (fun a b => lt3 a.k b.k)) {i j : Nat} {a b : IR} (ha : L[i]? = some a) (hb : L[j]? = some b) (he : eqP a.k b.k = true) : i = j := by
  obtain ⟨h1, e1⟩ := List.getElem?_eq_some_iff.1 ha
  obtain ⟨h2, e2⟩ := List.getElem?_eq_some_iff.1 hb
  rcases Nat.lt_trichotomy i j with hl | hl | hl
  · have h3 := List.pairwise_iff_getElem.1 h i j h1 h2 hl
    rw [e1, e2] at h3
    have h4 := lt3_ne h3
    rw [he] at h4; cases h4
  · exact hl
  · have h3 := List.pairwise_iff_getElem.1 h j i h2 h1 hl
    rw [e1, e2] at h3
    have h4 := lt3_ne h3
    rw [eqP_comm, he] at h4; cases h4
/-- one row turned, as its neighbour was -/
theorem IInv.turn {E E' : List EV} {L : List IR} {k : KV} {j : Nat} {b b' : IR} {o : List Int} (h : IInv E L) (hj : L[j]? = some b) (hb : eqP b.k k = true) (hk : b'.k = b.k) (hq : ∀ q, lnE E' q = if eqP k q then o else lnE E q) (ho : b'.it = o) : IInv E' (L.set j b') := by
  have hm : ∀ y ∈ L.set j b', y = b' ∨ (y ∈ L ∧ eqP k y.k = false) := fun y hy => by
    obtain ⟨i, hi⟩ := List.mem_iff_getElem?.1 hy
    rw [List.getElem?_set] at hi
    by_cases hij : j = i
    · rw [if_pos hij] at hi
      split at hi
      · cases hi; exact .inl rfl
      · cases hi
    · rw [if_neg hij] at hi
      refine .inr ⟨List.mem_of_getElem? hi, ?_⟩
      cases hc : eqP k y.k with
      | false => rfl
      | true =>
        exact absurd (ione_row h.so hj hi (eqP_trans hb hc)) hij
  refine ⟨iset_so h.so hj hk, fun y hy => ?_, fun y hy => ?_, fun q hq' => ?_⟩
  · rcases hm y hy with rfl | ⟨h1, _⟩
    · rw [hk]; exact h.wf b (List.mem_of_getElem? hj)
    · exact h.wf y h1
  · rcases hm y hy with rfl | ⟨h1, h2⟩
    · rw [hq, hk, if_pos (by rw [eqP_comm]; exact hb)]
      exact ho
    · rw [hq, if_neg (by rw [h2]; decide)]
      exact h.ok y h1
  · have hl : j < L.length := (List.getElem?_eq_some_iff.1 hj).1
    have hin : b' ∈ L.set j b' := List.mem_of_getElem? (i := j) (by rw [List.getElem?_set, if_pos rfl, if_pos hl])
    by_cases hkq : eqP k q = true
    · exact ⟨b', hin, by rw [hk]; exact eqP_trans hb hkq⟩
    · rw [hq, if_neg hkq] at hq'
      obtain ⟨y, hy, hyq⟩ := h.co q hq'
      obtain ⟨i, hi⟩ := List.mem_iff_getElem?.1 hy
      by_cases hij : j = i
      · subst hij
        rw [hj] at hi
        cases hi
        exact ⟨b', hin, by rw [hk]; exact hyq⟩
      · exact ⟨y, List.mem_of_getElem? (i := i) (by rw [List.getElem?_set, if_neg hij]; exact hi), hyq⟩
/-- a new row -/
theorem IInv.add {E : List EV} {L : List IR} {k : KV} {p : Nat} (h : IInv E L) (hk : k.Wf) (hn : ∀ r ∈ L, eqP r.k k = false) (hp : AtPi L k p) : IInv E (L.take p ++ (irz k) :: L.drop p) := by
  have hm : ∀ y ∈ L.take p ++ (irz k) :: L.drop p, y ∈ L ∨ y = irz k := fun y hy => by
    rcases List.mem_append.1 hy with hy | hy
    · exact .inl (List.mem_of_mem_take hy)
    · rcases List.mem_cons.1 hy with hy | hy
      · exact .inr hy
      · exact .inl (List.mem_of_mem_drop hy)
  have hsub : ∀ y ∈ L, y ∈ L.take p ++ (irz k) :: L.drop p := fun y hy => by
    rw [← List.take_append_drop p L] at hy
    rcases List.mem_append.1 hy with hy | hy
    · exact List.mem_append.2 (.inl hy)
    · exact List.mem_append.2 (.inr (List.mem_cons_of_mem _ hy))
  have hno : lnE E k = [] := by
    refine Decidable.byContradiction fun hc => ?_
    obtain ⟨b, hb, hbk⟩ := h.co k hc
    rw [hn b hb] at hbk; cases hbk
  refine ⟨?_, fun y hy => ?_, fun y hy => ?_, fun q hq => ?_⟩
  · rw [List.pairwise_append]
    refine ⟨h.so.sublist (List.take_sublist _ _), ?_, ?_⟩
    · rw [List.pairwise_cons]
      refine ⟨fun b hb => ?_, h.so.sublist (List.drop_sublist _ _)⟩
      have hpl : p < L.length := by
        refine Decidable.byContradiction (fun hc => ?_)
        rw [List.drop_of_length_le (by omega)] at hb
        cases hb
      have hx : lt3 k L[p].k := by
        have ha : L[p] ∈ L := List.getElem_mem hpl
        rcases tri L[p].k k (h.wf _ ha) hk with t | t | t
        · exact absurd t (hp.2.2 _ (List.getElem?_eq_getElem hpl))
        · exact t
        · rw [hn _ ha] at t; cases t
      rw [List.drop_eq_getElem_cons hpl] at hb
      rcases List.mem_cons.1 hb with rfl | hb
      · exact hx
      · have hd : (L.drop p).Pairwise (fun a b => lt3 a.k b.k) := h.so.sublist (List.drop_sublist _ _)
        rw [List.drop_eq_getElem_cons hpl, List.pairwise_cons] at hd
        exact lt3_trans hx (hd.1 b hb)
    · intro a ha b hb
      obtain ⟨j, hj, rfl⟩ := List.getElem_of_mem ha
      have hj' : j < p := by rw [List.length_take] at hj; omega
      have hjN : j < L.length := by have := hp.1; omega
      have haj : lt3 L[j].k k := hp.2.1 j _ hj' (List.getElem?_eq_getElem hjN)
      rw [List.getElem_take]
      rcases List.mem_cons.1 hb with rfl | hb
      · exact haj
      · obtain ⟨i, hi, rfl⟩ := List.getElem_of_mem hb
        rw [List.getElem_drop]
        exact List.pairwise_iff_getElem.1 h.so j (p + i) hjN (by rw [List.length_drop] at hi; omega) (by omega)
  · rcases hm y hy with h1 | rfl
    · exact h.wf y h1
    · exact hk
  · rcases hm y hy with h1 | rfl
    · exact h.ok y h1
    · exact hno.symm
  · obtain ⟨b, hb, hbq⟩ := h.co q hq
    exact ⟨b, hsub b hb, hbq⟩

/-- how many wait by the book -/
def itN (L : List IR) : Nat := (L.map (fun r => r.it.length)).foldr (· + ·) 0
theorem wait_del {k : KV} : ∀ {E : List EV}, Dj E → waitN E = (lnE E k).length + waitN (delE E k)
  | [], _ => rfl
  | a :: E, d => by
    obtain ⟨d1, d2⟩ := List.pairwise_cons.1 d
    have ih := wait_del (k := k) d2
    have hw : ∀ L : List EV, waitN (a :: L) = a.n.ln.length + waitN L := fun L => rfl
    by_cases h : eqP a.n.k k = true
    · have h1 : fE (a :: E) k = some a := by unfold fE; rw [List.find?_cons, h]
      have h2 : delE (a :: E) k = delE E k := by unfold delE; rw [List.filter_cons, if_neg (by rw [h]; decide)]
      have h3 : fE E k = none := by
        unfold fE
        rw [List.find?_eq_none]
        intro b hb
        rw [← eqP_same (p := a.n.k) (q := k) h, eqP_comm, d1 b hb]
        decide
      rw [lnE_none h3] at ih
      rw [hw, lnE_some h1, h2, ih]
      simp
    · have h' : eqP a.n.k k = false := by simpa using h
      have h1 : lnE (a :: E) k = lnE E k := by unfold lnE fE; rw [List.find?_cons, h']
      have h2 : delE (a :: E) k = a :: delE E k := by unfold delE; rw [List.filter_cons, if_pos (by rw [h']; rfl)]
      rw [hw, h1, h2, hw, ih]
      omega
theorem wait_zero {E : List EV} (d : Dj E) (h : ∀ k, lnE E k = []) : waitN E = 0 := by
  have h1 : ∀ e ∈ E, e.n.ln = [] := fun e he => by rw [← lnE_some (fE_mem d he (eqP_refl _))]; exact h _
  clear h d
  unfold waitN
  induction E with
  | nil => rfl
  | cons a E ih =>
    rw [List.map_cons, List.foldr_cons, ih (fun e he => h1 e (List.mem_cons_of_mem _ he)), h1 a (by simp)]
    rfl
theorem wait_book : ∀ {L : List IR} {E : List EV}, Dj E → IInv E L → waitN E = itN L
  | [], E, d, h => by
    refine wait_zero d fun k => ?_
    refine Decidable.byContradiction fun hk => ?_
    obtain ⟨b, hb, _⟩ := h.co k hk
    cases hb
  | r :: L, E, d, h => by
    obtain ⟨s1, s2⟩ := List.pairwise_cons.1 h.so
    have hd : ∀ q, lnE (delE E r.k) q = if eqP r.k q then [] else lnE E q := fun q => by
      unfold lnE
      rw [fE_delq]
      by_cases hq : eqP r.k q = true
      · rw [if_pos hq, if_pos hq]; rfl
      · rw [if_neg hq, if_neg hq]
    have hi : IInv (delE E r.k) L := ⟨s2, fun b hb => h.wf b (List.mem_cons_of_mem _ hb), fun b hb => by
      rw [hd, if_neg (by rw [lt3_ne (s1 b hb)]; decide)]
      exact h.ok b (List.mem_cons_of_mem _ hb), fun k hk => by
      rw [hd] at hk
      by_cases hq : eqP r.k k = true
      · rw [if_pos hq] at hk; exact absurd rfl hk
      · rw [if_neg hq] at hk
        obtain ⟨b, hb, hbk⟩ := h.co k hk
        rcases List.mem_cons.1 hb with rfl | hb
        · exact absurd hbk hq
        · exact ⟨b, hb, hbk⟩⟩
    rw [wait_del (k := r.k) d, wait_book (E := delE E r.k) (d.sublist List.filter_sublist) hi, ← h.ok r (by simp)]
    rfl
/-- a Tick's lost items, by the book: the rows whose neighbour is gone -/
def iG (E' : List EV) (r : IR) : Bool := (fE E' r.k).isNone && !r.it.isEmpty
def iB (E' : List EV) (r : IR) : IR := if iG E' r then irp r none 0 0 [] else r
theorem iB_k (E' : List EV) (r : IR) : (iB E' r).k = r.k := by unfold iB; split <;> rfl
theorem lost_inv {c : CF} {E : List EV} {L : List IR} (d : Dj E) (h : IInv E L) : IInv (E.filterMap (tickE c)) (L.map (iB (E.filterMap (tickE c)))) := by
  refine ⟨?_, fun y hy => ?_, fun y hy => ?_, fun k hk => ?_⟩
  · rw [List.pairwise_map]
    refine h.so.imp fun {a b} hab => ?_
    rw [iB_k, iB_k]; exact hab
  · obtain ⟨r, hr, rfl⟩ := List.mem_map.1 hy
    rw [iB_k]; exact h.wf r hr
  · obtain ⟨r, hr, rfl⟩ := List.mem_map.1 hy
    rw [iB_k, tick_ln d]
    unfold iB iG
    have ho := h.ok r hr
    cases hf : fE (E.filterMap (tickE c)) r.k with
    | none =>
      simp only [Option.isNone_none, Bool.true_and, Option.isSome_none, Bool.false_eq_true, if_false]
      cases hi : r.it with
      | nil => simp [hi]
      | cons a l => simp [irp]
    | some y => simpa using ho
  · rw [tick_ln d] at hk
    have : lnE E k ≠ [] := fun h0 => hk (by rw [h0]; split <;> rfl)
    obtain ⟨b, hb, hbk⟩ := h.co k this
    exact ⟨_, List.mem_map_of_mem hb, by rw [iB_k]; exact hbk⟩
theorem flat_ne {α : Type} (f : α → List Int) : ∀ xs : List α, xs.flatMap f = (xs.filter (fun a => !(f a).isEmpty)).flatMap f
  | [] => rfl
  | a :: xs => by
    rw [List.flatMap_cons, List.filter_cons, flat_ne f xs]
    cases h : f a with
    | nil => simp
    | cons b l => simp [h]
theorem flat_side {α β : Type} (f : α → List Int) (g : β → List Int) : ∀ (xs : List α) (ys : List β), xs.length = ys.length → (∀ (j : Nat) (a : α) (b : β), xs[j]? = some a → ys[j]? = some b → f a = g b) → xs.flatMap f = ys.flatMap g
  | [], [], _, _ => rfl
  | [], b :: ys, h, _ => by simp at h
  | a :: xs, [], h, _ => by simp at h
  | a :: xs, b :: ys, h, k => by
    rw [List.flatMap_cons, List.flatMap_cons, k 0 a b rfl rfl, flat_side f g xs ys (by simpa using h) (fun j x y hx hy => k (j + 1) x y (by simpa using hx) (by simpa using hy))]
theorem lost_of {c : CF} {E : List EV} (d : Dj E) {Kd : List KV} (hp : Kd.Perm (dueL c E)) {k : KV} (hk : k ∈ Kd) : ∃ e, fE E k = some e ∧ e.n.k = k ∧ dueB c e.n = true ∧ lostOf c (E.map (ag1 c)) k = if e.n.tr < c.tr then [] else e.n.ln := by
  obtain ⟨e, he, rfl, hdu, hfe⟩ := due_fE d hp hk
  obtain ⟨_, _, g3⟩ := due_e hdu
  refine ⟨e, fE_mem d he (eqP_refl _), rfl, hdu, ?_⟩
  unfold lostOf
  rw [hfe]
  simp only [Option.map_some, Option.getD_some, g3]
theorem tick_gone {c : CF} {e : EV} : tickE c e = none ↔ dueB c e.n = true ∧ ¬ e.n.tr < c.tr := by
  unfold tickE tkE
  by_cases hd : dueB c e.n = true
  · obtain ⟨_, _, g3⟩ := due_e hd
    rw [if_pos hd, g3]
    by_cases h : e.n.tr < c.tr
    · simp [h]
    · simp [h, hd]
  · rw [if_neg hd]
    simp [hd]
theorem lost_side {c : CF} {E : List EV} {L : List IR} (d : Dj E) (hw : ∀ e ∈ E, e.n.k.Wf) (h : IInv E L) {Kd : List KV} (hp : Kd.Perm (dueL c E)) (hs : Kd.Pairwise (fun a b => 0 ≤ ordV b a)) :
    lostL c (E.map (ag1 c)) Kd = (L.filter (iG (E.filterMap (tickE c)))).flatMap IR.it := by
  unfold lostL
  rw [flat_ne]
  have hX : ∀ k ∈ Kd.filter (fun a => !(lostOf c (E.map (ag1 c)) a).isEmpty), ∃ e, fE E k = some e ∧ e.n.k = k ∧ dueB c e.n = true ∧ ¬ e.n.tr < c.tr ∧ e.n.ln ≠ [] ∧ lostOf c (E.map (ag1 c)) k = e.n.ln := fun k hk => by
    obtain ⟨h1, h2⟩ := List.mem_filter.1 hk
    obtain ⟨e, f1, f2, f3, f4⟩ := lost_of d hp h1
    rw [f4] at h2
    by_cases ht : e.n.tr < c.tr
    · rw [if_pos ht] at h2; simp at h2
    · rw [if_neg ht] at h2 f4
      exact ⟨e, f1, f2, f3, ht, fun h0 => by rw [h0] at h2; simp at h2, f4⟩
  have key := side (fun k : KV => k) (fun r : IR => r.k) (Kd.filter (fun a => !(lostOf c (E.map (ag1 c)) a).isEmpty)) (L.filter (iG (E.filterMap (tickE c)))) ((kd_lt d hw hp hs).sublist List.filter_sublist) (h.so.sublist List.filter_sublist) ?_ ?_
  · refine flat_side _ _ _ _ key.1 fun j k r hk hr => ?_
    have hq := key.2 j k r hk hr
    obtain ⟨e, f1, _, _, _, _, f6⟩ := hX k (List.mem_of_getElem? hk)
    rw [f6, h.ok r (List.mem_filter.1 (List.mem_of_getElem? hr)).1, ← lnE_eq hq, lnE_some f1]
  · intro k hk
    obtain ⟨e, f1, f2, f3, f4, f5, f6⟩ := hX k hk
    obtain ⟨r, hr, hrk⟩ := h.co k (by rw [lnE_some f1]; exact f5)
    refine ⟨r, List.mem_filter.2 ⟨hr, ?_⟩, by rw [eqP_comm]; exact hrk⟩
    have hf : fE E r.k = some e := by rw [fE_eq hrk]; exact f1
    unfold iG
    rw [fE_tick d, hf, h.ok r hr, lnE_some hf]
    simp only [Option.bind_some]
    rw [tick_gone.2 ⟨f3, f4⟩]
    simpa using f5
  · intro r hr
    obtain ⟨h1, h2⟩ := List.mem_filter.1 hr
    unfold iG at h2
    simp only [Bool.and_eq_true, Bool.not_eq_true', Option.isNone_iff_eq_none] at h2
    obtain ⟨g1, g2⟩ := h2
    have hne : lnE E r.k ≠ [] := fun h0 => by rw [h.ok r h1, h0] at g2; simp at g2
    cases hf : fE E r.k with
    | none => exact absurd (lnE_none hf) hne
    | some e =>
      rw [fE_tick d, hf] at g1
      obtain ⟨f3, f4⟩ := tick_gone.1 g1
      obtain ⟨he, hek⟩ := fE_some hf
      have hkd : e.n.k ∈ Kd := hp.mem_iff.2 (by unfold dueL; exact List.mem_map.2 ⟨e, List.mem_filter.2 ⟨he, f3⟩, rfl⟩)
      refine ⟨e.n.k, List.mem_filter.2 ⟨hkd, ?_⟩, hek⟩
      obtain ⟨e', q1, _, _, q4⟩ := lost_of d hp hkd
      rw [fE_mem d he (eqP_refl _)] at q1
      cases q1
      rw [q4, if_neg f4]
      rw [lnE_some hf] at hne
      simpa using hne
end Go.Proofs.Ytialefdojeddjaa
namespace Go.Proofs.Ytialefdojeddjaa
open Go.RowKit Go.Maps

def bwN (R : List BV) : Nat := (R.map (fun r => r.n)).foldr (· + ·) 0
theorem bwN_cons (a : BV) (L : List BV) : bwN (a :: L) = a.n + bwN L := rfl
theorem bwN_app (L K : List BV) : bwN (L ++ K) = bwN L + bwN K := by
  induction L with
  | nil => simp [bwN]
  | cons a L ih => rw [List.cons_append, bwN_cons, bwN_cons, ih]; omega
theorem bwN_take (L : List BV) (i : Nat) : bwN (L.take i) ≤ bwN L := by
  have h := bwN_app (L.take i) (L.drop i)
  rw [List.take_append_drop] at h
  omega
set_option maxHeartbeats 3200000 in
set_option maxRecDepth 100000 in
theorem bwaiting_any (la : Option Addr) (n lc : Nat) (R : List BV) (w : World) (hR : BR w la R) (hn : R.length = n) (hl : n ≤ 2000000) (hs : bwN R ≤ 100000) : Calls Try.prog 33 #[.slice la n lc] w fun r w' => r = .returned (.int .i64 (bwN R : Nat)) ∧ Below w.heap.size w w' := by
  have HN : Hid (R.length = n ∧ n ≤ 2000000 ∧ bwN R ≤ 100000) := ⟨hn, hl, hs⟩
  have HER : Hid (BR w la R) := hR
  clear hn hl hs hR
  have HW0 : Hid (Below w.heap.size w w) := Below.refl _ _
  go_enter Try.func33, Try.ntmps33
  go_wp2_with fail
  go_loopw [3, 4] (fun zx ix wr => ∃ z i : Nat, zx = .int .i64 (z : Int) ∧ ix = .int .i64 (i : Int) ∧ i ≤ n ∧ Hid (Below w.heap.size w wr ∧ z = bwN (R.take i))) (fun _ ix _ => n - (intOf ix).toNat)
  case atStart => exact ⟨0, 0, rfl, rfl, by omega, HW0.out, rfl⟩
  case round =>
    obtain ⟨z, i, rfl, rfl, hi, HQ⟩ := hrel
    by_cases hlt : i < n
    · have k0 : (0 : Int) ≤ (i : Int) := by omega
      have k1 : (i : Int) < (n : Int) := by omega
      have k2 : ((i : Int)).toNat = i := by omega
      have wi : IntKind.i64.wrap ((i : Int) + 1) = (i : Int) + 1 := by have := HN.out.2; rw [IntKind.wrap_i64]; omega
      obtain ⟨e, he⟩ : ∃ e, R[i]? = some e := ⟨_, List.getElem?_eq_getElem (by rw [HN.out.1]; exact hlt)⟩
      obtain ⟨g, off, hla, hx1, hrg⟩ := (HER.out.below HQ.out.1).at i e he
      subst hla
      have HLT : Hid (i < n) := hlt
      have HTK : Hid (R.take (i + 1) = R.take i ++ [e]) := by show _ = _; rw [List.take_add_one, he]; rfl
      obtain ⟨m, hm⟩ : ∃ m, m = e.n := ⟨_, rfl⟩
      have c18 : wr.cell? ⟨g, off + i * 21 + 18, none⟩ = some (.slice e.la m e.lc) := by rw [hm]; exact hrg 18 _ rfl
      have HZ2 : Hid (z + m = bwN (R.take (i + 1))) := by show _ = _; rw [HTK.out, bwN_app, HQ.out.2, hm]; rfl
      have wz : IntKind.i64.wrap ((z : Int) + (m : Int)) = ((z + m : Nat) : Int) := by
        have h1 := bwN_take R (i + 1)
        have h3 := HZ2.out
        have h4 := HN.out.2.2
        rw [IntKind.wrap_i64]
        omega
      obtain ⟨z2, hz2⟩ : ∃ z2, z2 = z + m := ⟨_, rfl⟩
      rw [← hz2] at wz HZ2
      clear hm hz2 he hx1 hrg hi
      go_wp2_with fail
      go_roundw
      case rel => exact ⟨z2, i + 1, rfl, by first | rfl | go_num, by have := HLT.out; omega, HQ.out.1, HZ2.out⟩
      case measure => have := HLT.out; simp [intOf]; omega
    · have hni : ¬ ((i : Int) < (n : Int)) := by omega
      have HZE : Hid (z = bwN R) := by
        show _ = _
        rw [HQ.out.2, List.take_of_length_le (by have := HN.out.1; omega)]
      go_wp2_with fail
      go_ret
      refine ⟨?_, HQ.out.1⟩
      rw [← HZE.out]
      rfl
end Go.Proofs.Ytialefdojeddjaa
namespace Go.Proofs.Ytialefdojeddjaa
open Go.RowKit Go.Maps

def ivS (b : BV) : Value := .slice b.la b.n b.lc
def itB (L : List IR) (q : Nat) : Prop := ∃ r ∈ L, (ivS r.b).ownBlock = some q
def itD (r s : IR) : Prop := ∀ g, (ivS r.b).ownBlock = some g → (ivS s.b).ownBlock ≠ some g
theorem itD.symm {r s : IR} (h : itD r s) : itD s r := fun g h1 h2 => h g h2 h1
/-- the book in memory, its items with it -/
structure IM (base : Nat) (v : Value) (L : List IR) (X : World) : Prop where
  b : BL X base v (L.map IR.b)
  l : ∀ r ∈ L, LnAt X (ivS r.b) r.it
  d : L.Pairwise itD
section
variable {base : Nat} {v : Value} {L : List IR} {X X' : World}
theorem IM.kind (h : IM base v L X) {q : Nat} (hq : itB L q) : ∃ c, X.heap[q]? = some (.cells c 3 (0, 0)) := by
  obtain ⟨r, hr, hb⟩ := hq
  exact (h.l r hr).kind q hb
theorem IM.lt (h : IM base v L X) {q : Nat} (hq : itB L q) : q < X.heap.size := by
  obtain ⟨c, hc⟩ := h.kind hq
  exact (Array.getElem?_eq_some_iff.1 hc).1
theorem IM.ne (h : IM base v L X) {q g : Nat} (hq : itB L q) (hg : v.ownBlock = some g) : q ≠ g := by
  obtain ⟨c, hc⟩ := h.kind hq
  obtain ⟨_, _, c2, h2⟩ := h.b.cells g hg
  exact kind_ne' hc h2 (by decide)
theorem IM.ch {S : Nat → Prop} (h : IM base v L X) (k : Ch S X X') (h1 : ∀ g, v.ownBlock = some g → ¬ S g) (h2 : ∀ q, itB L q → ¬ S q) : IM base v L X' :=
  ⟨h.b.ch k h1, fun r hr => k.owns (h.l r hr) (fun g hg => h2 g ⟨r, hr, hg⟩), h.d⟩
theorem IM.below (h : IM base v L X) (b : Below X.heap.size X X') : IM base v L X' := h.ch (Ch.ofBelow (S := fun _ => False) b) (fun _ _ => id) (fun _ _ => id)
theorem IM.len (h : IM base v L X) {r : IR} (hr : r ∈ L) : r.b.n = r.it.length := by
  obtain ⟨a, c, e⟩ := (h.l r hr).form
  unfold ivS at e
  simp only [Value.slice.injEq] at e
  exact e.2.1
theorem IM.sum (h : IM base v L X) : bwN (L.map IR.b) = itN L := by
  have hk : ∀ r ∈ L, r.b.n = r.it.length := fun r hr => h.len hr
  clear h
  unfold bwN itN
  induction L with
  | nil => rfl
  | cons a L ih =>
    have e := ih (fun r hr => hk r (List.mem_cons_of_mem _ hr))
    simp only [List.map_cons, List.foldr_cons] at e ⊢
    rw [e, hk a (by simp)]
theorem pw_get {α : Type} {R : α → α → Prop} {L : List α} : L.Pairwise R ↔ ∀ (i l : Nat) (a b : α), i < l → L[i]? = some a → L[l]? = some b → R a b := by
  rw [List.pairwise_iff_getElem]
  constructor
  · intro h i l a b hil ha hb
    obtain ⟨h1, rfl⟩ := List.getElem?_eq_some_iff.1 ha
    obtain ⟨h2, rfl⟩ := List.getElem?_eq_some_iff.1 hb
    exact h i l h1 h2 hil
  · intro h i l h1 h2 hil
    exact h i l _ _ hil (List.getElem?_eq_getElem h1) (List.getElem?_eq_getElem h2)
theorem IM.apart (h : IM base v L X) {i j : Nat} {r s : IR} (hij : i ≠ j) (hi : L[i]? = some r) (hj : L[j]? = some s) : itD r s := by
  rcases Nat.lt_or_gt_of_ne hij with hl | hl
  · exact pw_get.1 h.d i j r s hl hi hj
  · exact (pw_get.1 h.d j i s r hl hj hi).symm
end
/-- the cache (entries E) and the book beside it -/
structure IT (w : World) (t M : Nat) (d : CF) (E : List EV) (L : List IR) (v : Value) (X : World) : Prop where
  l : LSt w t M d E X
  e2 : E2 E
  m : IM w.heap.size v L X
  ap : ∀ q, itB L q → ¬ CB t M E q
  ol : ∀ q, itB L q → w.heap.size ≤ q
section
variable {w : World} {t M : Nat} {d : CF} {E Ep : List EV} {L : List IR} {v : Value} {X X' : World}
theorem IT.below (h : IT w t M d E L v X) (b : Below X.heap.size X X') : IT w t M d E L v X' := ⟨h.l.below b, h.e2, h.m.below b, h.ap, h.ol⟩
theorem IT.cache {E' : List EV} (h : IT w t M d E L v X) (hl : LSt w t M d E' X') (h2 : E2 E') (k : Ch (CB t M E) X X') (hq : ∀ q, CB t M E' q → CB t M E q ∨ X.heap.size ≤ q) : IT w t M d E' L v X' :=
  ⟨hl, h2, h.m.ch k (h.m.b.not h.l.ca) h.ap, fun q hi hc => by
    rcases hq q hc with h1 | h1
    · exact h.ap q hi h1
    · have := h.m.lt hi
      omega, h.ol⟩
/-- a row's items written anew -/
theorem IT.put {g n cap j : Nat} {r : IR} {la : Option Addr} {m lc : Nat} {it' : List Int} (h : IT w t M d E L (.slice (some ⟨g, 0, none⟩) n cap) X) (hn : L.length = n) (hr : L[j]? = some r) (k : Ch (fun q => (ivS r.b).ownBlock = some q) X X') (hl : LnAt X' (.slice la m lc) it') (hf : ∀ q, (Value.slice la m lc).ownBlock = some q → (ivS r.b).ownBlock = some q ∨ X.heap.size ≤ q) :
    IT w t M d E (L.set j (irp r la m lc it')) (.slice (some ⟨g, 0, none⟩) n cap) (X'.setCell ⟨g, j * 21 + 18, none⟩ (.slice la m lc)) := by
  have hrm : r ∈ L := List.mem_of_getElem? hr
  have hjl : j < L.length := (List.getElem?_eq_some_iff.1 hr).1
  obtain ⟨hgb, hgs, cc, hcc⟩ := h.m.b.cells g rfl
  have hne : ∀ q, itB L q → q ≠ g := fun q hq => h.m.ne hq rfl
  have hS : ¬ (ivS r.b).ownBlock = some g := fun e => hne g ⟨r, hrm, e⟩ rfl
  have hb' : BL X' w.heap.size (.slice (some ⟨g, 0, none⟩) n cap) (L.map IR.b) := h.m.b.ch k (fun q hq e => by
    have e1 : g = q := by simpa [Value.ownBlock] using hq
    rw [← e1] at e
    exact hS e)
  have hl' : LSt w t M d E X' := h.l.ch k (fun q hq e => h.ap q ⟨r, hrm, e⟩ hq) (fun q e => h.ol q ⟨r, hrm, e⟩)
  have hcc' : X'.heap[g]? = some (.cells cc 60 (0, 0)) := (k.block g hgs hS).trans hcc
  have k2 : Ch (fun q => q = g) X' (X'.setCell ⟨g, j * 21 + 18, none⟩ (.slice la m lc)) := (Ch.refl (fun q => q = g) X').set _ _ rfl
  have hfg : ∀ q, (Value.slice la m lc).ownBlock = some q → q ≠ g := fun q hq => by
    rcases hf q hq with h1 | h1
    · exact hne q ⟨r, hrm, h1⟩
    · omega
  have hfd : ∀ (i : Nat) (y : IR), i ≠ j → L[i]? = some y → itD y (irp r la m lc it') := fun i y hij hy q h1 h2 => by
    rcases hf q h2 with h3 | h3
    · exact h.m.apart hij hy hr q h1 h3
    · have := h.m.lt ⟨y, List.mem_of_getElem? hy, h1⟩
      omega
  have hget : ∀ (i : Nat) (y : IR), (L.set j (irp r la m lc it'))[i]? = some y → (i = j ∧ y = (irp r la m lc it')) ∨ (i ≠ j ∧ L[i]? = some y) := fun i y hy => by
    rw [List.getElem?_set] at hy
    by_cases hij : j = i
    · rw [if_pos hij, if_pos hjl] at hy
      exact .inl ⟨hij.symm, (Option.some.inj hy).symm⟩
    · rw [if_neg hij] at hy
      exact .inr ⟨fun e => hij e.symm, hy⟩
  have hmem : ∀ y ∈ L.set j (irp r la m lc it'), y = (irp r la m lc it') ∨ ∃ i, i ≠ j ∧ L[i]? = some y := fun y hy => by
    obtain ⟨i, hi⟩ := List.mem_iff_getElem?.1 hy
    rcases hget i y hi with ⟨_, h1⟩ | ⟨h1, h2⟩
    · exact .inl h1
    · exact .inr ⟨i, h1, h2⟩
  have hblk : ∀ q, itB (L.set j (irp r la m lc it')) q → itB L q ∨ X.heap.size ≤ q := by
    rintro q ⟨y, hy, hq⟩
    rcases hmem y hy with rfl | ⟨i, _, h2⟩
    · rcases hf q hq with h1 | h1
      · exact .inl ⟨r, hrm, h1⟩
      · exact .inr h1
    · exact .inl ⟨y, List.mem_of_getElem? h2, hq⟩
  refine ⟨hl'.ch k2 (fun q hq e => ?_) (fun q e => by have e' : q = g := e; omega), h.e2, ⟨?_, fun y hy => ?_, ?_⟩, fun q hq hc => ?_, fun q hq => ?_⟩
  · have e' : q = g := e
    exact cb_apart hl'.ca hcc' (by decide) (by decide) (by decide) (by rw [← e']; exact hq)
  · have h9 := hb'.set1 (b := r.b) (b' := (irp r la m lc it').b) (v := .slice la m lc) (i := j) (j := 18) (by rw [List.length_map]; exact hn) (by rw [List.getElem?_map, hr]; rfl) (by omega) rfl
    rw [List.map_set]
    exact h9
  · rcases hmem y hy with rfl | ⟨i, h1, h2⟩
    · exact k2.owns hl (fun q hq e => hfg q hq e)
    · have h3 : LnAt X' (ivS y.b) y.it := k.owns (h.m.l y (List.mem_of_getElem? h2)) (fun q hq e => h.m.apart h1 h2 hr q hq e)
      exact k2.owns h3 (fun q hq e => hne q ⟨y, List.mem_of_getElem? h2, hq⟩ e)
  · refine pw_get.2 fun i l a b hil ha hb => ?_
    rcases hget i a ha with ⟨rfl, rfl⟩ | ⟨h1, h2⟩
    · rcases hget l b hb with ⟨rfl, _⟩ | ⟨h3, h4⟩
      · omega
      · exact (hfd l b h3 h4).symm
    · rcases hget l b hb with ⟨rfl, rfl⟩ | ⟨h3, h4⟩
      · exact hfd i a h1 h2
      · exact h.m.apart (by omega) h2 h4
  · rcases hblk q hq with h1 | h1
    · exact h.ap q h1 hc
    · have := h.l.ca.tlt q hc
      omega
  · rcases hblk q hq with h1 | h1
    · exact h.ol q h1
    · exact Nat.le_trans h.l.bel.size h1
/-- a row's items gone -/
theorem IT.clear {g n cap j : Nat} {r : IR} (h : IT w t M d E L (.slice (some ⟨g, 0, none⟩) n cap) X) (hn : L.length = n) (hr : L[j]? = some r) :
    IT w t M d E (L.set j (irp r none 0 0 [])) (.slice (some ⟨g, 0, none⟩) n cap) (X.setCell ⟨g, j * 21 + 18, none⟩ (.slice none 0 0)) :=
  h.put hn hr (Ch.refl _ X) (World.ownsRow_nil _ _ _ _) (fun q hq => by simp [Value.ownBlock] at hq)
/-- waiting, of the book under way -/
theorem IT.waiting (h : IT w t M d E L v X) (hi : IInv E L) {la : Option Addr} {n lc : Nat} (hv : v = .slice la n lc) (hl : n ≤ 1048577) : Calls Try.prog 33 #[.slice la n lc] X fun r X' => r = .returned (.int .i64 (waitN E : Nat)) ∧ Below X.heap.size X X' := by
  obtain ⟨va, vc, hv', hBR, _⟩ := h.m.b.cap
  rw [hv] at hv'
  simp only [Value.slice.injEq] at hv'
  obtain ⟨rfl, hn, rfl⟩ := hv'
  have hs : bwN (L.map IR.b) = waitN E := by rw [h.m.sum, wait_book h.l.ca.dj hi]
  have hw := waitN_le h.l.ca.dj (fun s hs => hs) 64 (h.l.ok.lns h.l.cf)
  have hle := h.l.ok.len h.l.cf
  rw [← hs]
  exact bwaiting_any la n lc _ X hBR hn.symm (by omega) (by rw [hs]; omega)
/-- row, of the book under way -/
def IRow (w : World) (t M : Nat) (d : CF) (E Ep : List EV) (n0 : Nat) (k : KV) (X : World) (r : Ending) (X' : World) : Prop :=
  ∃ (g n cap : Nat) (L1 : List IR) (j : Nat) (b : IR), r = .returned (.tuple #[.slice (some ⟨g, 0, none⟩) n cap, .int .i64 (j : Int)]) ∧ IT w t M d E L1 (.slice (some ⟨g, 0, none⟩) n cap) X' ∧ IInv Ep L1 ∧ L1.length = n ∧ n ≤ n0 + 1 ∧ L1[j]? = some b ∧ eqP b.k k = true ∧ Below X.heap.size X X'
theorem IT.row (h : IT w t M d E L v X) (hI : IInv Ep L) {la : Option Addr} {n lc : Nat} (hv : v = .slice la n lc) (hl : n ≤ 1048576) (k : KV) (hk : k.Wf) : Calls Try.prog 24 #[.slice la n lc, .int .i64 k.pt, .agg (ipCells k.V k.x)] X fun r X' => IRow w t M d E Ep n k X r X' := by
  obtain ⟨va, vc, hv', hBR, h1, h2, h3⟩ := h.m.b.cap
  rw [hv] at hv'
  simp only [Value.slice.injEq] at hv'
  obtain ⟨rfl, hn, rfl⟩ := hv'
  have hn' : L.length = n := by rw [hn, List.length_map]
  have hwf : ∀ b ∈ L.map IR.b, b.k.Wf := fun b hb => by obtain ⟨r, hr, rfl⟩ := List.mem_map.1 hb; exact hI.wf r hr
  refine (row_any la n lc (L.map IR.b) k X hBR hn.symm hl (by omega) h2 h3 hwf hk).mono ?_
  rintro r X' ⟨b, ⟨i, e, hi, he, rfl⟩ | ⟨hno, v1, p, rfl, hp, hBL⟩⟩
  · obtain ⟨g, cap, hg, _⟩ := h.m.b.at i e hi
    rw [hv] at hg
    simp only [Value.slice.injEq] at hg
    obtain ⟨rfl, _, rfl⟩ := hg
    have hb := h.below b
    rw [hv] at hb
    rw [List.getElem?_map] at hi
    cases hr : L[i]? with
    | none => rw [hr] at hi; cases hi
    | some r =>
      rw [hr] at hi
      cases hi
      exact ⟨g, n, lc, L, i, r, rfl, hb, hI, hn', by omega, hr, he, b⟩
  · have hpi := AtPi.of hp
    have hat : (L.take p ++ irz k :: L.drop p)[p]? = some (irz k) := by
      have e1 : (L.take p).length = p := by rw [List.length_take]; have := hpi.1; omega
      rw [List.getElem?_append_right (by omega), e1, Nat.sub_self]
      rfl
    have hmp : (L.map IR.b).take p ++ (⟨k, none, 0, 0, 0, 0⟩ : BV) :: (L.map IR.b).drop p = (L.take p ++ irz k :: L.drop p).map IR.b := by
      rw [List.map_append, List.map_cons, List.map_take, List.map_drop]
      rfl
    rw [hmp] at hBL
    have hlen : (L.take p ++ irz k :: L.drop p).length = n + 1 := by
      rw [List.length_append, List.length_cons, List.length_take, List.length_drop]
      have := hpi.1
      omega
    obtain ⟨g, cap, hg, _⟩ := hBL.at p (irz k).b (by rw [List.getElem?_map, hat]; rfl)
    rw [List.length_map, hlen] at hg
    subst hg
    have hb := h.below b
    have hz : ∀ q, ¬ (ivS (irz k).b).ownBlock = some q := fun q hq => by simp [ivS, irz, Value.ownBlock] at hq
    have hmem : ∀ y ∈ L.take p ++ irz k :: L.drop p, y ∈ L ∨ y = irz k := fun y hy => by
      rcases List.mem_append.1 hy with hy | hy
      · exact .inl (List.mem_of_mem_take hy)
      · rcases List.mem_cons.1 hy with hy | hy
        · exact .inr hy
        · exact .inl (List.mem_of_mem_drop hy)
    have hblk : ∀ q, itB (L.take p ++ irz k :: L.drop p) q → itB L q := by
      rintro q ⟨y, hy, hq⟩
      rcases hmem y hy with h1 | rfl
      · exact ⟨y, h1, hq⟩
      · exact absurd hq (hz q)
    refine ⟨g, n + 1, cap, _, p, _, rfl, ⟨hb.l, hb.e2, ⟨BL.mono hBL h.l.bel.size, fun y hy => ?_, ?_⟩, fun q hq => hb.ap q (hblk q hq), fun q hq => hb.ol q (hblk q hq)⟩, hI.add hk (fun r hr => hno r.b (List.mem_map_of_mem hr)) hpi, hlen, by omega, hat, eqP_refl k, b⟩
    · rcases hmem y hy with h1 | rfl
      · exact hb.m.l y h1
      · exact World.ownsRow_nil _ _ _ _
    · have hd := hb.m.d
      rw [← List.take_append_drop p L, List.pairwise_append] at hd
      obtain ⟨d1, d2, d3⟩ := hd
      rw [List.pairwise_append]
      refine ⟨d1, List.pairwise_cons.2 ⟨fun y _ q h1 => absurd h1 (hz q), d2⟩, fun a ha y hy => ?_⟩
      rcases List.mem_cons.1 hy with rfl | hy
      · exact fun q _ h2 => hz q h2
      · exact d3 a ha y hy
end
end Go.Proofs.Ytialefdojeddjaa
namespace Go.Proofs.Ytialefdojeddjaa
open Go.RowKit Go.Maps

theorem ln_at {X : World} {v : Value} {l : List Int} {base j : Nat} {x : Int} (h : X.ownsRow base 3 1 v l.length (l.map (Value.int .i64))) (hj : l[j]? = some x) : ∃ q cap, v = .slice (some ⟨q, 0, none⟩) l.length cap ∧ X.cell? ⟨q, j, none⟩ = some (.int .i64 x) := by
  have hl := (List.getElem?_eq_some_iff.1 hj).1
  rcases h.2 with ⟨rfl, h0⟩ | ⟨g, cap, cur, rfl, _⟩
  · omega
  · refine ⟨g, cap, rfl, ?_⟩
    have hc := World.ownsRow.cells h rfl j (.int .i64 x) (by rw [List.getElem?_map, hj]; rfl)
    rwa [Addr.add_lit, Nat.zero_add] at hc
structure LO (w : World) (t M : Nat) (d : CF) (E : List EV) (gb : Nat) (gv : Value) (G : List Int) (L : List IR) (v : Value) (X : World) : Prop where
  t : IT w t M d E L v X
  g : IL X gb gv G
section
variable {w : World} {t M : Nat} {d : CF} {E : List EV} {gb : Nat} {gv : Value} {G : List Int} {L : List IR} {v : Value} {X X' : World}
theorem LO.below (h : LO w t M d E gb gv G L v X) (b : Below X.heap.size X X') : LO w t M d E gb gv G L v X' := ⟨h.t.below b, IL.below h.g b⟩
theorem LO.clear {g n cap j : Nat} {r : IR} (h : LO w t M d E gb gv G L (.slice (some ⟨g, 0, none⟩) n cap) X) (hn : L.length = n) (hr : L[j]? = some r) :
    LO w t M d E gb gv G (L.set j (irp r none 0 0 [])) (.slice (some ⟨g, 0, none⟩) n cap) (X.setCell ⟨g, j * 21 + 18, none⟩ (.slice none 0 0)) := by
  have k : Ch (fun q => q = g) X (X.setCell ⟨g, j * 21 + 18, none⟩ (.slice none 0 0)) := (Ch.refl (fun q => q = g) X).set _ _ rfl
  obtain ⟨_, _, cc, hcc⟩ := h.t.m.b.cells g rfl
  refine ⟨h.t.clear hn hr, IL.ch h.g k (fun q hq e => ?_)⟩
  obtain ⟨_, _, c2, h2⟩ := IL.cells h.g q hq
  exact kind_ne' h2 hcc (by decide) e
theorem LO.item (h : LO w t M d E gb gv G L v X) {r : IR} {la : Option Addr} {n lc : Nat} (hr : r ∈ L) (hv : ivS r.b = .slice la n lc) {j : Nat} {x : Int} (hj : r.it[j]? = some x) : ∃ q, la = some ⟨q, 0, none⟩ ∧ X.cell? ⟨q, j, none⟩ = some (.int .i64 x) := by
  obtain ⟨q, cap, h1, h2⟩ := ln_at (h.t.m.l r hr) hj
  rw [hv] at h1
  simp only [Value.slice.injEq] at h1
  exact ⟨q, h1.1, h2⟩
theorem LO.gone (h : LO w t M d E gb gv G L v X) {la : Option Addr} {n lc : Nat} (hv : gv = .slice la n lc) {j : Nat} {x : Int} (hj : G[j]? = some x) : ∃ q, la = some ⟨q, 0, none⟩ ∧ X.cell? ⟨q, j, none⟩ = some (.int .i64 x) := by
  obtain ⟨q, cap, h1, h2⟩ := ln_at h.g hj
  rw [hv] at h1
  simp only [Value.slice.injEq] at h1
  exact ⟨q, h1.1, h2⟩
theorem LO.rng {g n cap : Nat} (h : LO w t M d E gb gv G L (.slice (some ⟨g, 0, none⟩) n cap) X) {i : Nat} {r : IR} (hr : L[i]? = some r) : X.rangeAt g (i * 21) (bvC r.b).toList := h.t.m.b.rng (by rw [List.getElem?_map, hr]; rfl)
theorem LO.fz {g n cap : Nat} (h : LO w t M d E gb gv G L (.slice (some ⟨g, 0, none⟩) n cap) X) (j : Nat) : X.frozen? ⟨g, j, none⟩ = false := h.t.m.b.fz j
end
/-- the first i rows turned -/
def uptI (f : IR → IR) (L : List IR) (i : Nat) : List IR := (L.take i).map f ++ L.drop i
theorem uptI_len (f : IR → IR) (L : List IR) (i : Nat) : (uptI f L i).length = L.length := by unfold uptI; rw [List.length_append, List.length_map, List.length_take, List.length_drop]; omega
theorem uptI_at (f : IR → IR) {L : List IR} {i : Nat} {b : IR} (h : L[i]? = some b) : (uptI f L i)[i]? = some b := by
  have hi := (List.getElem?_eq_some_iff.1 h).1
  unfold uptI
  rw [List.getElem?_append_right (by rw [List.length_map, List.length_take]; omega), List.length_map, List.length_take, List.getElem?_drop, show i + (i - min i L.length) = i by omega]
  exact h
theorem uptI_next (f : IR → IR) {L : List IR} {i : Nat} {b : IR} (h : L[i]? = some b) : (uptI f L i).set i (f b) = uptI f L (i + 1) := by
  obtain ⟨hi, he⟩ := List.getElem?_eq_some_iff.1 h
  unfold uptI
  have e1 : ((L.take i).map f).length = i := by rw [List.length_map, List.length_take]; omega
  rw [List.set_append_right _ _ (by omega), e1, Nat.sub_self, List.drop_eq_getElem_cons hi, he, List.set_cons_zero, List.take_add_one, h, List.map_append]
  simp
theorem uptI_same (f : IR → IR) {L : List IR} {i : Nat} {b : IR} (h : L[i]? = some b) (hf : f b = b) : uptI f L (i + 1) = uptI f L i := by
  rw [← uptI_next f h, hf]
  obtain ⟨hl, he⟩ := List.getElem?_eq_some_iff.1 (uptI_at f h)
  have e2 : (uptI f L i).set i ((uptI f L i)[i]) = uptI f L i := List.set_getElem_self hl
  rw [he] at e2
  exact e2
theorem uptI_all (f : IR → IR) {L : List IR} {i : Nat} (h : L.length ≤ i) : uptI f L i = L.map f := by unfold uptI; rw [List.take_of_length_le h, List.drop_of_length_le h, List.append_nil]
/-- what the first i rows lose -/
def gpre (E : List EV) (L : List IR) (i : Nat) : List Int := ((L.take i).filter (iG E)).flatMap IR.it
theorem gpre_off {E : List EV} {L : List IR} {i : Nat} {r : IR} (h : L[i]? = some r) (hg : iG E r = false) : gpre E L (i + 1) = gpre E L i := by
  unfold gpre
  rw [List.take_add_one, h, List.filter_append]
  simp [hg]
theorem gpre_on {E : List EV} {L : List IR} {i : Nat} {r : IR} (h : L[i]? = some r) (hg : iG E r = true) : gpre E L (i + 1) = gpre E L i ++ r.it := by
  unfold gpre
  rw [List.take_add_one, h, List.filter_append]
  simp [hg]
theorem gpre_all {E : List EV} {L : List IR} {i : Nat} (h : L.length ≤ i) : gpre E L i = (L.filter (iG E)).flatMap IR.it := by unfold gpre; rw [List.take_of_length_le h]
theorem gone_at {E : List EV} {L : List IR} {i j : Nat} {r : IR} (h : L[i]? = some r) (hg : iG E r = true) (hj : j < r.it.length) : ((L.filter (iG E)).flatMap IR.it)[(gpre E L i).length + j]? = r.it[j]? := by
  obtain ⟨hl, he⟩ := List.getElem?_eq_some_iff.1 h
  have e1 : L = L.take i ++ r :: L.drop (i + 1) := by rw [← he, ← List.drop_eq_getElem_cons hl, List.take_append_drop]
  have e2 : (L.filter (iG E)).flatMap IR.it = gpre E L i ++ (r.it ++ ((L.drop (i + 1)).filter (iG E)).flatMap IR.it) := by
    unfold gpre
    conv => lhs; rw [e1]
    rw [List.filter_append, List.filter_cons, if_pos hg, List.flatMap_append, List.flatMap_cons]
  rw [e2, List.getElem?_append_right (by omega), Nat.add_sub_cancel_left, List.getElem?_append_left hj]
end Go.Proofs.Ytialefdojeddjaa
