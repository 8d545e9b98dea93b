/-
  Package hole, fill: what its loop holds on to; the greater and the smaller of two; a copy into the bytes' row.
-/
import Derived.Test.YtcoaghcmbhogjaaHHeld
import Derived.Laws.CopyOwn
namespace Go.Proofs.Ytcoaghcmbhogjaa
open Go.RowKit Go.Maps
namespace H11

theorem yields_max {ops : Array Oper} {o : Oper} {a : Act} {S : World → Prop} (x y : Operand) (ts : Array TypeId) (ho : o.op = .call { callee := .builtin .max, args := #[x, y], argTypes := ts }) (p q r : Nat) (hr : r = max p q) (hx : a.eval x = .int .i64 (p : Int)) (hy : a.eval y = .int .i64 (q : Int)) (hw : Region.wanted o (yielded ops a.tmps) = true) : YieldsIf Try.prog ops S o (.int .i64 (r : Int)) a := by
  refine .inl ⟨hw, fun w hb => ?_⟩
  obtain ⟨dst, op, type, pos, after, guard⟩ := o
  simp only at ho
  subst ho
  have e : (if (q : Int) > (p : Int) then (q : Int) else (p : Int)) = (r : Int) := by split <;> omega
  simp only [execOp, resolve, invoke, builtin, Sem.run_bind, Sem.run_pure, Result.andThen_ok, List.map_toArray, List.map_cons, List.map_nil, hx, hy, run_max_int2, e]
theorem yields_min {ops : Array Oper} {o : Oper} {a : Act} {S : World → Prop} (x y : Operand) (ts : Array TypeId) (ho : o.op = .call { callee := .builtin .min, args := #[x, y], argTypes := ts }) (p q r : Nat) (hr : r = min p q) (hx : a.eval x = .int .i64 (p : Int)) (hy : a.eval y = .int .i64 (q : Int)) (hw : Region.wanted o (yielded ops a.tmps) = true) : YieldsIf Try.prog ops S o (.int .i64 (r : Int)) a := by
  refine .inl ⟨hw, fun w hb => ?_⟩
  obtain ⟨dst, op, type, pos, after, guard⟩ := o
  simp only at ho
  subst ho
  have e : (if (q : Int) < (p : Int) then (q : Int) else (p : Int)) = (r : Int) := by split <;> omega
  simp only [execOp, resolve, invoke, builtin, Sem.run_bind, Sem.run_pure, Result.andThen_ok, List.map_toArray, List.map_cons, List.map_nil, hx, hy, run_min_int2, e]

structure FC (w : World) (H : Nat) (s : HS) (v : HV) (acc : List (Nat × Nat)) (b : List Nat) (left : Value) (wr : World) : Prop where
  hat : HAt wr H { s with bs := b } v
  own : wr.ownsRow w.heap.size 45 2 left acc.length (gC acc)
  ch : Ch (fun q => v.bv.ownBlock = some q) w wr

theorem FC.below {w : World} {H : Nat} {s : HS} {v : HV} {acc : List (Nat × Nat)} {b : List Nat} {left : Value} {wr w' : World} (h : FC w H s v acc b left wr) (hb : Below wr.heap.size wr w') : FC w H s v acc b left w' :=
  ⟨h.hat.below hb, (Ch.ofBelow (S := fun _ => False) hb).owns h.own (fun _ _ k => k), h.ch.trans (Ch.ofBelow (S := fun _ => False) hb) (fun _ _ e => e.elim)⟩
theorem FC.app {w : World} {H : Nat} {s s0 : HS} {v : HV} {acc acc' : List (Nat × Nat)} {b : List Nat} {left v' : Value} {wr w' : World} (h : FC w H s v acc b left wr) (h0 : HAt w H s0 v) (ho : w'.ownsRow w.heap.size 45 2 v' acc'.length (gC acc')) (hg : wr.grownBy w' left.ownBlock) : FC w H s v acc' b v' w' := by
  have hl : ∀ x, left.ownBlock = some x → w.heap.size ≤ x := fun x hx => (h.own.lt x hx).1
  refine ⟨h.hat.ch (Ch.ofGrown hg) (fun x hx e => ?_), ho, h.ch.trans (Ch.ofGrown hg) (fun x hx e => ?_)⟩
  · have := h0.lt x hx
    have := hl x e
    omega
  · have := hl x e
    omega
/-- the bytes' row turned in its place -/
theorem FC.cpy {w : World} {H : Nat} {s : HS} {v : HV} {acc : List (Nat × Nat)} {b b' : List Nat} {left : Value} {wr w' : World} (h : FC w H s v acc b left wr) {s0 : HS} (h0 : HAt w H s0 v) {gb : Nat} (hgb : v.bv.ownBlock = some gb) (hk : Ch (fun q => q = gb) wr w') (ho : w'.ownsRow 0 5 1 v.bv b'.length ((toI b').map (Value.int .u8))) : FC w H s v acc b' left w' := by
  have nH : ¬ H = gb := fun e => h.hat.nbH (by rw [hgb, e])
  have nM : ¬ v.M = gb := fun e => h.hat.nbM (by rw [hgb, e])
  have nG : ∀ g, v.gv.ownBlock = some g → ¬ g = gb := fun g hg e => h.hat.nbg g (by rw [hgb, e]) hg
  have hl : ∀ x, left.ownBlock = some x → ¬ x = gb := by
    intro x hx e
    have h1 := (h.own.lt x hx).1
    have h2 := h0.lt gb (.inr (.inr (.inl hgb)))
    omega
  refine ⟨⟨hk.cell h.hat.c0 nH, hk.cell h.hat.c1 nH, hk.cell h.hat.c2 nH, hk.cell h.hat.c3 nH, hk.cell h.hat.c4 nH, ?_, ho, hk.owns h.hat.go nG, map_ch h.hat.mo hk nM, h.hat.hs, h.hat.nHM, h.hat.nbH, h.hat.nbM, h.hat.ngH, h.hat.ngM, h.hat.nbg⟩, hk.owns h.own hl, h.ch.trans hk (fun x _ e => by rw [hgb, e])⟩
  intro j
  exact (hk.frozen (p := ⟨H, j, none⟩) (h.hat.lt H (.inl rfl)) nH).trans (h.hat.fz j)

theorem toI_spl (b x : List Nat) (k : Nat) : (toI (spl b k x)).map (Value.int .u8) = ((toI b).map (Value.int .u8)).take k ++ (toI x).map (Value.int .u8) ++ ((toI b).map (Value.int .u8)).drop (k + x.length) := by
  simp [spl, toI]
/-- the row behind a copy into it -/
theorem owns_splice {w w' : World} {gb L bc : Nat} {b x : List Nat} {k : Nat} {cur : List Value} (ho : w.ownsRow 0 5 1 (.slice (some ⟨gb, 0, none⟩) L bc) L ((toI b).map (Value.int .u8))) (hc : w.heap[gb]? = some (.cells cur.toArray 5 (0, 0)))
    (hn : w'.heap[gb]? = some (.cells (splice cur k ((toI x).map (Value.int .u8))).toArray 5 (0, 0))) (hf : k + x.length ≤ L) (hl : b.length = L) : w'.ownsRow 0 5 1 (.slice (some ⟨gb, 0, none⟩) L bc) L ((toI (spl b k x)).map (Value.int .u8)) := by
  rcases ho.2 with ⟨e1, _⟩ | ⟨g, cap, cur', e1, e2, e3, e4, e5, e6, e7⟩
  · simp at e1
  · simp only [Value.slice.injEq, Option.some.injEq, Addr.mk.injEq, and_true] at e1
    obtain ⟨rfl, _, rfl⟩ := e1
    rw [hc] at e3
    simp only [Option.some.injEq, Obj.cells.injEq, and_true] at e3
    subst e3
    have hcl : cur.length = bc := by simpa using e6
    have hxl : ((toI x).map (Value.int .u8)).length = x.length := by simp [toI]
    refine ⟨by rw [List.length_map, toI_len, spl_len _ _ _ (by omega)]; omega, .inr ⟨gb, bc, _, rfl, Nat.zero_le _, hn, e4, e5, ?_, ?_⟩⟩
    · simp [splice, toI]
      omega
    · rw [toI_spl]
      simp only [Nat.mul_one] at e7 ⊢
      have hb : ((toI b).map (Value.int .u8)).length = L := by simp [toI, hl]
      have hcc : cur = (toI b).map (Value.int .u8) ++ cur.drop L := by rw [← e7]; exact (List.take_append_drop L cur).symm
      have hx : x.length = ((toI x).map (Value.int .u8)).length := hxl.symm
      have e8 : splice cur k ((toI x).map (Value.int .u8)) = ((toI b).map (Value.int .u8)).take k ++ (toI x).map (Value.int .u8) ++ ((toI b).map (Value.int .u8)).drop (k + x.length) ++ cur.drop L := by
        unfold splice
        rw [hxl]
        conv => lhs; rw [hcc]
        rw [List.take_append_of_le_length (by rw [hb]; omega), List.drop_append_of_le_length (by rw [hb]; omega)]
        simp
      show ((splice cur k ((toI x).map (Value.int .u8))).toArray.toList).take L = _
      rw [show (splice cur k ((toI x).map (Value.int .u8))).toArray.toList = splice cur k ((toI x).map (Value.int .u8)) from rfl, e8]
      exact List.take_left' (by simp only [List.length_append, List.length_take, List.length_drop, hb, hxl]; omega)

theorem wpList_copy_bytes {P : Program} {w : World} {ops : Array Oper} {rest : List Oper} {o : Oper} {a : Act} {Q : Exit → Act → World → Prop} (hgd : o.guard = none) (d s : Operand) (dT sT : TypeId)
    (ho : o.op = .call { callee := .builtin .copy, args := #[d, s], argTypes := #[dT, sT] }) (elem : TypeId) (hu : P.underlying dT = some (.slice elem)) (hsz : (P.info? elem).map (·.size) = some 1)
    (g off dLen dCap : Nat) (ad : Addr) (sLen sCap : Nat) (hd : a.eval d = .slice (some ⟨g, off, none⟩) dLen dCap) (hs : a.eval s = .slice (some ad) sLen sCap)
    (cur : List Value) (t : TypeId) (hg : w.heap[g]? = some (.cells cur.toArray t (0, 0))) (cs : List Value) (m : Nat) (hm : cs.length = m) (hn : m = Nat.min sLen dLen)
    (hsrc : ∀ j v, cs[j]? = some v → w.cell? (ad.add j) = some v) (hfit : off + m ≤ cur.length) (h1 : ∀ v ∈ cs, v.oneCell' = true)
    (h : ∀ w', w'.heap[g]? = some (.cells (splice cur off cs).toArray t (0, 0)) → Ch (fun q => q = g) w w' → wpList P ops Q rest (a.put o.dst (.int .i64 (m : Int))) w') :
    wpList P ops Q (o :: rest) a w := by
  subst hm
  refine wpList_copy_own hgd d s dT sT ho elem hu hsz g off dLen dCap ad sLen sCap hd hs cur.toArray t hg cs hn hsrc (by simpa using hfit) h1 ?_
  exact h _ (by simpa [splice] using setRow_heap w g _ _ t _ hg) ⟨rfl, rfl, rfl, by simp [World.setRow], fun k _ hk => setRow_other w g k _ hk⟩
theorem Try.sizeByte : (Try.prog.info? 5).map (·.size) = some 1 := by kernel_rfl
theorem gC_drop (gs : List (Nat × Nat)) (k : Nat) : (gC gs).drop (k * 2) = gC (gs.drop k) := by
  induction gs generalizing k with
  | nil => simp [gC]
  | cons g r ih =>
    cases k with
    | zero => simp
    | succ k =>
      have := ih k
      rw [show (k + 1) * 2 = k * 2 + 1 + 1 by omega]
      simp only [gC, List.flatMap_cons, List.cons_append, List.nil_append, List.drop_succ_cons] at this ⊢
      exact this
theorem FC.drew {w : World} {H : Nat} {s : HS} {v : HV} {acc : List (Nat × Nat)} {b : List Nat} {left : Value} {wr : World} (h : FC w H s v acc b left wr) : FC w H s v acc b left wr.drew := h.below (drew_below (Below.refl _ _))

end H11
end Go.Proofs.Ytcoaghcmbhogjaa
