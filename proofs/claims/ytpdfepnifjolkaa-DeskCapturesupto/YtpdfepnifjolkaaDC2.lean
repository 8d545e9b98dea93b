/-
  Layer 20, captures: a frame in memory; readFrame.
-/
import Derived.Test.YtpdfepnifjolkaaDC1
namespace Go.Proofs.Ytpdfepnifjolkaa
open Go.RowKit Go.ChangeShapes Go.WideShapes

section
variable {α : Type} {K : Nat} {cells : α → List Value}
/-- append of a list that was handed in -/
theorem wpList_appH {ops : Array Oper} {rest : List Oper} {o : Oper} {a : Act} {w : World} {Q : Exit → Act → World → Prop} (hcl : ∀ o, (cells o).length = K) (h1c : ∀ o, ∀ u ∈ cells o, u.oneCell' = true) (hK : 0 < K) (hgd : o.guard = none) (s x : Operand) (t e : TypeId) (ho : o.op = .call { callee := .builtin .append, args := #[s, x], argTypes := #[t, t] })
    (ht : Try.prog.underlying t = some (.slice e)) (hinfo : Info e K)
    (base : Nat) (v : Value) (L : List α) (hs : a.eval s = v) (hown : GL K cells e w base v L) (ok : α → Prop) (la : Option Addr) (n lc : Nat) (rs : List α) (hx : a.eval x = .slice la n lc) (hn : rs.length = n) (hG : ListG K cells ok w la rs) (hL : L.length ≤ 100000000000) (hR : rs.length ≤ 2000000) (hbase : base ≤ w.heap.size)
    (h : ∀ v' w', GL K cells e w' base v' (L ++ rs) → w.grownBy w' v.ownBlock → (v'.ownBlock = v.ownBlock ∨ v'.ownBlock = some w.heap.size) → wpList Try.prog ops Q rest (a.put o.dst v') w') : wpList Try.prog ops Q (o :: rest) a w := by
  subst hn
  obtain ⟨i, z, hi, hz0, hz1, hz2, hz3⟩ := hinfo
  cases la with
  | none =>
    have hr0 : rs = [] := by
      rcases hG with h0 | ⟨b, off, hb, _⟩
      · exact h0
      · cases hb
    subst hr0
    refine wpList_plain hgd fun Kk hKk => ?_
    have hrun := run_append_nil (P := Try.prog) (w := w) base t o.type e i K ht hi v L.length lc (L.flatMap cells) hown
    unfold Oper.wp
    simp only [List.length_nil] at hx
    simp [execOp, ho, resolve, invoke, builtin, hs, hx, hrun, Result.andThen]
    exact hKk _ _ (h v w (by simpa using hown) ⟨rfl, rfl, rfl, Nat.le_refl _, fun _ _ _ => rfl⟩ (.inl rfl))
  | some ad =>
    refine wpList_append_own_at w hgd s x t ho base e i z K i.bytes ht hi hz0 hz1 rfl hz2 hK v L.length (L.flatMap cells) hs hown ad rs.length lc (rs.flatMap cells) hx (fmc_len K cells hcl rs) ?_ ?_ (by unfold maxLen; omega) ?_ hbase ?_
    · intro j u hj
      rcases hG with h0 | ⟨b, off, hb, hlt, hc⟩
      · subst h0; simp at hj
      · cases hb
        have hjl := (List.getElem?_eq_some_iff.1 hj).1
        rw [fmc_len K cells hcl] at hjl
        have hq : j / K < rs.length := (Nat.div_lt_iff_lt_mul hK).2 hjl
        have hm : j % K < K := Nat.mod_lt _ hK
        have hoq : rs[j / K]? = some rs[j / K] := List.getElem?_eq_getElem hq
        have e1 : j / K * K + j % K = j := by rw [Nat.mul_comm]; exact Nat.div_add_mod j K
        have e2 := fmc_get K cells hcl rs (j / K) _ hoq (j % K) hm
        rw [e1, hj] at e2
        have e3 := (hc (j / K) _ hoq).2 (j % K) hm
        rw [Nat.add_assoc, e1] at e3
        rw [Addr.add_lit, e3, ← e2]
    · intro u hu
      obtain ⟨o', _, hu'⟩ := List.mem_flatMap.1 hu
      exact h1c o' u hu'
    · calc (L.length + rs.length) * i.bytes ≤ 100002000000 * 1000 := Nat.mul_le_mul (by omega) hz3
        _ ≤ _ := by decide
    · intro v' w' q1 q2 _ q4
      refine h v' w' ?_ q2 q4
      show w'.ownsRow base e K v' (L ++ rs).length ((L ++ rs).flatMap cells)
      rw [List.flatMap_append, List.length_append]
      exact q1
/-- append of one that lies in a row of its own -/
theorem wpList_app1H {ops : Array Oper} {rest : List Oper} {o : Oper} {a : Act} {w : World} {Q : Exit → Act → World → Prop} (hcl : ∀ o, (cells o).length = K) (h1c : ∀ o, ∀ u ∈ cells o, u.oneCell' = true) (hK : 0 < K) (hgd : o.guard = none) (s x : Operand) (t e : TypeId) (ho : o.op = .call { callee := .builtin .append, args := #[s, x], argTypes := #[t, t] })
    (ht : Try.prog.underlying t = some (.slice e)) (hinfo : Info e K)
    (base : Nat) (v : Value) (L : List α) (hs : a.eval s = v) (hown : GL K cells e w base v L) (B : Nat) (lc : Nat) (r : α) (hx : a.eval x = .slice (some ⟨B, 0, none⟩) 1 lc) (hB : B < w.heap.size) (hr : w.rangeAt B 0 (cells r)) (hL : L.length ≤ 100000000000) (hbase : base ≤ w.heap.size)
    (h : ∀ v' w', GL K cells e w' base v' (L ++ [r]) → w.grownBy w' v.ownBlock → (v'.ownBlock = v.ownBlock ∨ v'.ownBlock = some w.heap.size) → wpList Try.prog ops Q rest (a.put o.dst v') w') : wpList Try.prog ops Q (o :: rest) a w := by
  refine wpList_appH hcl h1c hK hgd s x t e ho ht hinfo base v L hs hown (fun _ => True) (some ⟨B, 0, none⟩) 1 lc [r] hx rfl (.inr ⟨B, 0, rfl, hB, fun i o' ho' => ⟨trivial, fun j hj => ?_⟩⟩) hL (by simp) hbase h
  have hi : i = 0 := by have := (List.getElem?_eq_some_iff.1 ho').1; simp at this; exact this
  subst hi
  simp only [List.getElem?_cons_zero, Option.some.injEq] at ho'
  subst ho'
  have hj' : j < (cells r).length := by rw [hcl]; exact hj
  have := hr j _ (List.getElem?_eq_getElem hj')
  rw [Nat.zero_mul, Nat.zero_add, List.getElem?_eq_getElem hj']
  rwa [Nat.zero_add] at this
end
/-- a frame in memory: its numbers, its bytes, where these lie -/
structure CE where
  tk : Int
  pt : Int
  ou : Bool
  d : List Nat
  a : Option Addr
  cap : Nat
def ceA (c : CE) : Array Value := #[.int .i64 c.tk, .int .i64 c.pt, .bool c.ou, .slice c.a c.d.length c.cap]
def ceL (c : CE) : List Value := (ceA c).toList
theorem ceL_len (c : CE) : (ceL c).length = 4 := rfl
theorem ceL_one (c : CE) : ∀ u ∈ ceL c, u.oneCell' = true := by simp [ceL, ceA, Value.oneCell']
def cz : CE := ⟨0, 0, false, [], none, 0⟩
theorem info_ce : Info 37 4 := info_of (by kernel_rfl)
theorem Try.size_cap : (Try.prog.info? 37).map (·.size) = some 4 := by kernel_rfl
def CapAt (w : World) (O : Nat) (cv : CE) : Prop := w.heap[O]? = some (.cells (ceA cv) 37 (0, 0))
section
variable {w : World} {O : Nat} {cv : CE} (k : CapAt w O cv)
include k
theorem CapAt.lt : O < w.heap.size := (Array.getElem?_eq_some_iff.1 k).1
theorem CapAt.ch {S : Nat → Prop} {w' : World} (c : Ch S w w') (hS : ¬ S O) : CapAt w' O cv := (c.block O k.lt hS).trans k
theorem CapAt.below {w' : World} (c : Below w.heap.size w w') : CapAt w' O cv := (c.block O k.lt).trans k
theorem CapAt.cell (i : Nat) : w.cell? ⟨O, i, none⟩ = (ceA cv)[i]? := by unfold CapAt at k; simp [World.cell?, k]
theorem CapAt.fz (j : Nat) : w.frozen? ⟨O, j, none⟩ = false := by unfold CapAt at k; simp [World.frozen?, k]
theorem CapAt.range (o n : Nat) : w.rangeAt O o (((ceA cv).extract o (o + n)).toList) := World.rangeAt_of_block k o n
end
theorem cap_new (w : World) (cv : CE) : CapAt (w.alloc (.cells (ceA cv) 37)) w.heap.size cv := heap_alloc_new _ _
theorem wpList_load_cap {ops : Array Oper} {rest : List Oper} {o : Oper} {a : Act} {w : World} {Q : Exit → Act → World → Prop} (x : Operand) (ho : o.op = .load 37 x) (O : Nat) (cv : CE) (hx : a.eval x = .pointer (some ⟨O, 0, none⟩)) (hb : CapAt w O cv)
    (hw : Region.wanted o (yielded ops a.tmps) = true) (hh : wpList Try.prog ops Q rest (a.put o.dst (.agg (ceA cv))) w) : wpList Try.prog ops Q (o :: rest) a w := by
  refine wpList_step fun K hK => ?_
  rw [if_pos hw]
  exact wp_load_row 37 x ho O hx _ _ _ _ hb Try.underlying37 rfl Try.size_cap (hK _ _ hh)
theorem wpList_store_cap {ops : Array Oper} {rest : List Oper} {o : Oper} {a : Act} {w : World} {Q : Exit → Act → World → Prop} (x y : Operand) (ho : o.op = .store 37 x y) (hd : o.dst = none) (O : Nat) (cv : CE) (cv' : CE) (hx : a.eval x = .pointer (some ⟨O, 0, none⟩)) (hy : a.eval y = .agg (ceA cv')) (hb : CapAt w O cv)
    (hw : Region.wanted o (yielded ops a.tmps) = true) (hh : ∀ w', CapAt w' O cv' → Ch (fun q => q = O) w w' → wpList Try.prog ops Q rest a w') : wpList Try.prog ops Q (o :: rest) a w := by
  refine wpList_step fun K hK => ?_
  rw [if_pos hw]
  refine wp_store_row 37 x y ho O (ceA cv') hx hy _ (ceA cv) hb Try.size_cap rfl (by simp [ceA, Value.oneCell']) (hK _ _ ?_)
  rw [hd]
  refine hh _ (setRow_heap w O _ _ _ _ hb) ⟨rfl, rfl, rfl, ?_, ?_⟩
  · simp [World.setRow]
  · intro k hk hne
    simp only [World.setRow]
    rw [Array.getElem?_modify, if_neg (fun e => hne e.symm)]
theorem wpList_alloc_cap {ops : Array Oper} {rest : List Oper} {o : Oper} {a : Act} {w : World} {Q : Exit → Act → World → Prop} (ho : o.op = .alloc 37) (hw : Region.wanted o (yielded ops a.tmps) = true)
    (h : wpList Try.prog ops Q rest (a.put o.dst (.pointer (some ⟨w.heap.size, 0, none⟩))) (w.alloc (.cells (ceA cz) 37))) : wpList Try.prog ops Q (o :: rest) a w := by
  refine wpList_step fun K hK => ?_
  rw [if_pos hw]
  have hrun : (execOp a.eval o).run Try.prog w = .ok (.value (.pointer (some ⟨w.heap.size, 0, none⟩))) (w.alloc (.cells (ceA cz) 37)) := by
    obtain ⟨dst, op, type, pos, after, guard⟩ := o
    simp only at ho
    subst ho
    simp only [execOp]
    go_simp
    rfl
  unfold Oper.wp
  rw [hrun]
  exact hK _ _ h
theorem yields_cap {ops : Array Oper} {o : Oper} {a : Act} {S : World → Prop} (x : Operand) (ho : o.op = .load 37 x) (O off : Nat) (cv : CE) (hx : a.eval x = .pointer (some ⟨O, off, none⟩)) (hw : Region.wanted o (yielded ops a.tmps) = true) (hS : ∀ w, S w → w.rangeAt O off (ceA cv).toList) : YieldsIf Try.prog ops S o (.agg (ceA cv)) a :=
  yieldsIf_load_mid hw 37 x ho O off hx (ceA cv).toList _ hS Try.underlying37 rfl Try.size_cap
theorem wpList_mid_cap {ops : Array Oper} {rest : List Oper} {o : Oper} {a : Act} {w : World} {Q : Exit → Act → World → Prop} (x : Operand) (ho : o.op = .load 37 x) (O off : Nat) (cv : CE) (hx : a.eval x = .pointer (some ⟨O, off, none⟩)) (hb : w.rangeAt O off (ceA cv).toList)
    (hw : Region.wanted o (yielded ops a.tmps) = true) (h : wpList Try.prog ops Q rest (a.put o.dst (.agg (ceA cv))) w) : wpList Try.prog ops Q (o :: rest) a w := by
  refine wpList_step fun K hK => ?_
  rw [if_pos hw]
  exact wp_load_mid 37 x ho O off hx (ceA cv).toList _ hb Try.underlying37 rfl Try.size_cap (hK _ _ h)
theorem results_cap {fn : Func} {p : Tmp} (h : fn.results = #[.cell p 37]) (tmps : Array Value) (w : World) (O : Nat) (cv : CE) (hp : tmps.getD p undef = .pointer (some ⟨O, 0, none⟩)) (hb : CapAt w O cv) :
    (results fn tmps).run Try.prog w = .ok (.agg (ceA cv)) w :=
  results_cell_row h tmps w O _ (ceA cv) _ _ hp hb Try.underlying37 rfl Try.size_cap
theorem wpList_box_cap {ops : Array Oper} {rest : List Oper} {o : Oper} {a : Act} {w : World} {Q : Exit → Act → World → Prop} (x : Operand) (ho : o.op = .box 37 x) (cv : CE) (hx : a.eval x = .agg (ceA cv)) (hw : Region.wanted o (yielded ops a.tmps) = true)
    (h : ∀ B W, Hid (w.heap.size = B ∧ W.heap.size = B + 1) → CapAt W B cv → Below w.heap.size w W → wpList Try.prog ops Q rest (a.put o.dst (.pointer (some ⟨B, 0, none⟩))) W) : wpList Try.prog ops Q (o :: rest) a w := by
  refine wpList_step fun K hK => ?_
  rw [if_pos hw]
  have hrun : (execOp a.eval o).run Try.prog w = .ok (.value (.pointer (some ⟨w.heap.size, 0, none⟩))) (w.alloc (.cells (ceA cv) 37)) := by
    obtain ⟨dst, op, type, pos, after, guard⟩ := o
    simp only at ho
    subst ho
    simp only [execOp, hx]
    go_simp
  unfold Oper.wp
  rw [hrun]
  exact hK _ _ (h _ _ ⟨rfl, World.size_alloc _ _⟩ (cap_new _ _) ((Below.refl _ _).alloc (Nat.le_refl _) _))
theorem wpList_nil_cap {ops : Array Oper} {rest : List Oper} {o : Oper} {a : Act} {w : World} {Q : Exit → Act → World → Prop} (ho : o.op = .alloc 37) (hw : Region.wanted o (yielded ops a.tmps) = true)
    (h : ∀ B W, Hid (w.heap.size = B ∧ W.heap.size = B + 1) → CapAt W B cz → Below w.heap.size w W → wpList Try.prog ops Q rest (a.put o.dst (.pointer (some ⟨B, 0, none⟩))) W) : wpList Try.prog ops Q (o :: rest) a w :=
  wpList_alloc_cap ho hw (h _ _ ⟨rfl, World.size_alloc _ _⟩ (cap_new _ _) ((Below.refl _ _).alloc (Nat.le_refl _) _))
theorem yields_u8 {ops : Array Oper} {o : Oper} {a : Act} {S : World → Prop} (x : Operand) (ho : o.op = .load 5 x) (p : Addr) (u : Value) (hx : a.eval x = .pointer (some p)) (hw : Region.wanted o (yielded ops a.tmps) = true) (hS : ∀ w, S w → w.cell? p = some u) : YieldsIf Try.prog ops S o u a := by
  refine .inl ⟨hw, fun w hb => ?_⟩
  have hc := hS w hb
  have hu := Try.underlying5
  obtain ⟨dst, op, type, pos, after, guard⟩ := o
  simp only at ho
  subst ho
  simp only [execOp, Sem.run_bind, Sem.run_pure]
  rw [hx]
  go_simp
theorem yields_int {ops : Array Oper} {o : Oper} {a : Act} {S : World → Prop} (x : Operand) (ho : o.op = .load 3 x) (p : Addr) (u : Value) (hx : a.eval x = .pointer (some p)) (hw : Region.wanted o (yielded ops a.tmps) = true) (hS : ∀ w, S w → w.cell? p = some u) : YieldsIf Try.prog ops S o u a := by
  refine .inl ⟨hw, fun w hb => ?_⟩
  have hc := hS w hb
  have hu := Try.underlying3
  obtain ⟨dst, op, type, pos, after, guard⟩ := o
  simp only at ho
  subst ho
  simp only [execOp, Sem.run_bind, Sem.run_pure]
  rw [hx]
  go_simp
theorem yields_bool {ops : Array Oper} {o : Oper} {a : Act} {S : World → Prop} (x : Operand) (ho : o.op = .load 4 x) (p : Addr) (u : Value) (hx : a.eval x = .pointer (some p)) (hw : Region.wanted o (yielded ops a.tmps) = true) (hS : ∀ w, S w → w.cell? p = some u) : YieldsIf Try.prog ops S o u a := by
  refine .inl ⟨hw, fun w hb => ?_⟩
  have hc := hS w hb
  have hu := Try.underlying4
  obtain ⟨dst, op, type, pos, after, guard⟩ := o
  simp only at ho
  subst ho
  simp only [execOp, Sem.run_bind, Sem.run_pure]
  rw [hx]
  go_simp
theorem yields_row {ops : Array Oper} {o : Oper} {a : Act} {S : World → Prop} (x : Operand) (ho : o.op = .load 22 x) (p : Addr) (u : Value) (hx : a.eval x = .pointer (some p)) (hw : Region.wanted o (yielded ops a.tmps) = true) (hS : ∀ w, S w → w.cell? p = some u) : YieldsIf Try.prog ops S o u a := by
  refine .inl ⟨hw, fun w hb => ?_⟩
  have hc := hS w hb
  have hu := Try.underlying22
  obtain ⟨dst, op, type, pos, after, guard⟩ := o
  simp only at ho
  subst ho
  simp only [execOp, Sem.run_bind, Sem.run_pure]
  rw [hx]
  go_simp
theorem run_bcap (t p : Int) (u : Bool) (a : Option Addr) (n k : Nat) (w : World) : (Instr.build 37 #[(0, .int .i64 t), (1, .int .i64 p), (2, .bool u), (3, .slice a n k)]).run Try.prog w = .ok (.agg (#[.int .i64 t, .int .i64 p, .bool u, .slice a n k])) w := by kernel_rfl
theorem wpList_bcap {ops : Array Oper} {rest : List Oper} {o : Oper} {a_ : Act} {w : World} {Q : Exit → Act → World → Prop} (y0 y1 y2 y3 : Operand) (ho : o.op = .build 37 #[(0, y0), (1, y1), (2, y2), (3, y3)]) (t p : Int) (u : Bool) (a : Option Addr) (n k : Nat) (h0 : a_.eval y0 = .int .i64 t) (h1 : a_.eval y1 = .int .i64 p) (h2 : a_.eval y2 = .bool u) (h3 : a_.eval y3 = .slice a n k) (hw : Region.wanted o (yielded ops a_.tmps) = true)
    (h : wpList Try.prog ops Q rest (a_.put o.dst (.agg (#[.int .i64 t, .int .i64 p, .bool u, .slice a n k]))) w) : wpList Try.prog ops Q (o :: rest) a_ w := by
  refine wpList_step fun K hK => ?_
  rw [if_pos hw]
  have hrun : (execOp a_.eval o).run Try.prog w = .ok (.value (.agg (#[.int .i64 t, .int .i64 p, .bool u, .slice a n k]))) w := by
    obtain ⟨dst, op, type, pos, after, guard⟩ := o
    simp only at ho
    subst ho
    simp only [execOp, Sem.run_bind, List.map_toArray, List.map_cons, List.map_nil, h0, h1, h2, h3, run_bcap t p u a n k w, Result.andThen_ok]
    rfl
  unfold Oper.wp
  rw [hrun]
  exact hK _ _ h
theorem run_bcz (w : World) : (Instr.build 37 #[]).run Try.prog w = .ok (.agg (ceA cz)) w := by kernel_rfl
theorem wpList_bcz {ops : Array Oper} {rest : List Oper} {o : Oper} {a_ : Act} {w : World} {Q : Exit → Act → World → Prop} (ho : o.op = .build 37 #[]) (hw : Region.wanted o (yielded ops a_.tmps) = true)
    (h : wpList Try.prog ops Q rest (a_.put o.dst (.agg (ceA cz))) w) : wpList Try.prog ops Q (o :: rest) a_ w := by
  refine wpList_step fun K hK => ?_
  rw [if_pos hw]
  have hrun : (execOp a_.eval o).run Try.prog w = .ok (.value (.agg (ceA cz))) w := by
    obtain ⟨dst, op, type, pos, after, guard⟩ := o
    simp only at ho
    subst ho
    simp only [execOp, Sem.run_bind, List.map_toArray, List.map_nil, run_bcz w, Result.andThen_ok]
    rfl
  unfold Oper.wp
  rw [hrun]
  exact hK _ _ h
theorem results_cap_tt {fn : Func} {p u v : Tmp} (h : fn.results = #[.cell p 37, .tmp u, .tmp v]) (tmps : Array Value) (w : World) (O : Nat) (c : CE) (hp : tmps.getD p undef = .pointer (some ⟨O, 0, none⟩)) (hb : CapAt w O c) :
    (results fn tmps).run Try.prog w = .ok (.tuple #[.agg (ceA c), tmps.getD u undef, tmps.getD v undef]) w := by
  have hp' : tmps[p]?.getD undef = .pointer (some ⟨O, 0, none⟩) := by simpa using hp
  simp [results, h, hp', asAddr, run_loadVar_row w O _ 37 (ceA c) _ _ hb Try.underlying37 rfl Try.size_cap]
theorem num2 (x y : Nat) : num [x, y] = 256 * x + y := by simp [num]; omega
/-- how long the bytes of the first frame are said to be -/
def szF (l : List Nat) : Nat := 256 * l.getD 6 0 + l.getD 7 0
/-- what is wrong with the first frame, and where -/
def badF (l : List Nat) : Option Nat := if l.length < 8 then some 0 else if 1 < l.getD 5 0 then some 5 else if l.length < 8 + szF l then some 0 else none
theorem num_two {l : List Nat} (h : 8 ≤ l.length) : num ((l.drop 6).take 2) = szF l := by
  match l, h with
  | a :: b :: c :: d :: e :: f :: x :: y :: r, _ => simp [szF, num2, List.getD]
theorem bthen {w a b : World} (h : Below w.heap.size w a) (k : Below a.heap.size a b) : Below w.heap.size w b := h.trans (k.mono h.size)
set_option maxHeartbeats 1600000 in
set_option maxRecDepth 100000 in
theorem frame_any (w : World) (a : Option Addr) (n k : Nat) (l : List Nat) (hn : l.length = n) (hk : n ≤ k) (hs : Seg .u8 w a (toI l)) (h256 : ∀ x ∈ l, x < 256) : Calls Try.prog 16 #[.slice a n k] w fun e w' => Below w.heap.size w w' ∧ ((∃ p, badF l = some p ∧ e = .returned (.tuple #[.agg (ceA cz), .int .i64 0, .int .i64 (p : Int)])) ∨ (badF l = none ∧ ∃ ad cc, OwnB w' w.heap.size (.slice ad (szF l) cc) (szF l) ((l.drop 8).take (szF l)) ∧ e = .returned (.tuple #[.agg (ceA ⟨(num (l.take 4) : Nat), (l.getD 4 0 : Nat), l.getD 5 0 == 1, (l.drop 8).take (szF l), ad, cc⟩), .int .i64 ((8 + szF l : Nat) : Int), .int .i64 0]))) := by
  have HS : Hid (Seg .u8 w a (toI l) ∧ l.length = n ∧ (∀ x ∈ l, x < 256) ∧ n ≤ k) := ⟨hs, hn, h256, hk⟩
  clear hs hn h256
  go_enter Try.func16, Try.ntmps16
  go_upto_region 1 with (first | (refine wpList_nil_cap rfl rfl ?_; intro O Y hO hA bY))
  have HO : Hid _ := hO
  have HA : Hid (CapAt Y O cz) := hA
  have HB : Hid (Below w.heap.size w Y) := bY
  clear hO hA bY
  by_cases h8 : n < 8
  · have g1 : decide ((n : Int) < 8) = true := decide_eq_true (by omega)
    have g2 : decide (n < 8) = true := decide_eq_true h8
    have HF : Hid (badF l = some 0) := if_pos (by rw [HS.out.2.1]; exact h8)
    clear h8
    go_wp2_with (first | (refine wpList_bcz rfl rfl ?_) | (refine wpList_store_cap (.tmp 2) (.tmp 8) rfl rfl O cz cz rfl rfl HA.out rfl ?_; intro w5 h5 k5))
    have HR : Hid (CapAt w5 O cz ∧ Below w.heap.size w w5) := ⟨h5, HB.out.trans (k5.below (fun q hq => by have := HO.out.1; omega) HB.out.size)⟩
    clear h5 k5
    go_wp2_with fail
    refine bodyPost_ret (results_cap_tt rfl _ _ O cz rfl HR.out.1) rfl ?_
    exact ⟨HR.out.2, .inl ⟨0, HF.out, rfl⟩⟩

  obtain ⟨b, off, rfl, hc⟩ := seg_at HS.out.1 5 (by rw [HS.out.2.1]; omega)
  have HC : Hid (∀ W : World, Below w.heap.size w W → ∀ j, j < n → W.cell? ⟨b, off + j, none⟩ = some (.int .u8 ((l.getD j 0 : Nat) : Int))) := fun W hW j hj => by
    have h1 := hc j (by rw [HS.out.2.1]; exact hj)
    exact (hW.cell (p := ⟨b, off + j, none⟩) (World.block_lt_of_cell? w _ h1)).trans h1
  clear hc
  have g1 : decide ((n : Int) < 8) = false := decide_eq_false (by omega)
  have g2 : decide (n < 8) = false := decide_eq_false h8
  have n5 : (5 : Int) < (n : Int) := by omega
  have c5 := HC.out Y HB.out 5 (by omega)
  obtain ⟨y5, hy5⟩ : ∃ y, y = l.getD 5 0 := ⟨_, rfl⟩
  rw [← hy5] at c5
  have HY5 : Hid (y5 = l.getD 5 0) := hy5
  clear hy5
  by_cases h1 : 1 < y5
  · have g3 : decide ((1 : Int) < (y5 : Int)) = true := decide_eq_true (by omega)
    have g4 : decide (1 < y5) = true := decide_eq_true h1
    have HF : Hid (badF l = some 5) := by show _ = _; unfold badF; rw [if_neg (by rw [HS.out.2.1]; exact h8), if_pos (by rw [← HY5.out]; exact h1)]
    clear h8 h1
    go_wp2_with (first | (refine wpList_bcz rfl rfl ?_) | (refine wpList_store_cap (.tmp 2) (.tmp 13) rfl rfl O cz cz rfl rfl HA.out rfl ?_; intro w5 h5 k5))
    have HR : Hid (CapAt w5 O cz ∧ Below w.heap.size w w5) := ⟨h5, HB.out.trans (k5.below (fun q hq => by have := HO.out.1; omega) HB.out.size)⟩
    clear h5 k5
    go_wp2_with fail
    refine bodyPost_ret (results_cap_tt rfl _ _ O cz rfl HR.out.1) rfl ?_
    exact ⟨HR.out.2, .inl ⟨5, HF.out, rfl⟩⟩

  have g3 : decide ((1 : Int) < (y5 : Int)) = false := decide_eq_false (by omega)
  have g4 : decide (1 < y5) = false := decide_eq_false h1
  have n6 : (8 : Int) ≤ (k : Int) := by omega
  go_upto_region 5 with fail
  clear c5 g1 g2 g3 g4
  have HN : Hid (¬ n < 8 ∧ ¬ 1 < y5) := ⟨h8, h1⟩
  clear h8 h1
  obtain ⟨sz, hsz⟩ : ∃ z, z = szF l := ⟨_, rfl⟩
  have hz2 : sz < 65536 := by rw [hsz]; unfold szF; have h6 := get256 HS.out.2.2.1 6; have h7 := get256 HS.out.2.2.1 7; omega
  have HSZ : Hid (sz = szF l) := hsz
  have Q6 : Hid (Calls Try.prog 19 #[.slice (some ⟨b, off + 6, none⟩) 2 (k - 6)] Y fun e w' => e = .returned (.int .u64 (sz : Int)) ∧ Y = w') := by
    have h1 := HS.out.1.part 6 2 (by rw [toI_len, HS.out.2.1]; have := HN.out.1; omega)
    rw [toI_drop, toI_take] at h1
    have h2 := high_any (some ⟨b, off + 6, none⟩) 2 (k - 6) ((l.drop 6).take 2) Y (by rw [List.length_take, List.length_drop, HS.out.2.1]; have := HN.out.1; omega) (by decide) (h1.old HB.out) (fun x hx => HS.out.2.2.1 x (List.mem_of_mem_drop (List.mem_of_mem_take hx)))
    rw [num_two (by rw [HS.out.2.1]; have := HN.out.1; omega), ← hsz] at h2
    exact h2
  clear hsz
  have w1 : IntKind.i64.wrap (sz : Int) = (sz : Int) := i64_s _ (by omega) (by omega)
  have w2 : IntKind.i64.wrap (8 + (sz : Int)) = 8 + (sz : Int) := i64_s _ (by omega) (by omega)
  go_wp2_with fail
  refine Calls.mono Q6.out ?_
  rintro e w1_ ⟨rfl, rfl⟩
  clear Q6
  by_cases hsh : n < 8 + sz
  · have g1 : decide ((n : Int) < 8 + (sz : Int)) = true := decide_eq_true (by omega)
    have HF : Hid (badF l = some 0) := by show _ = _; unfold badF; rw [if_neg (by rw [HS.out.2.1]; exact HN.out.1), if_neg (by rw [← HY5.out]; exact HN.out.2), if_pos (by rw [HS.out.2.1, ← HSZ.out]; exact hsh)]
    clear hsh
    go_wp2_with (first | (refine wpList_bcz rfl rfl ?_) | (refine wpList_store_cap (.tmp 2) (.tmp 23) rfl rfl O cz cz rfl rfl HA.out rfl ?_; intro w5 h5 k5))
    have HR : Hid (CapAt w5 O cz ∧ Below w.heap.size w w5) := ⟨h5, HB.out.trans (k5.below (fun q hq => by have := HO.out.1; omega) HB.out.size)⟩
    clear h5 k5
    go_wp2_with fail
    refine bodyPost_ret (results_cap_tt rfl _ _ O cz rfl HR.out.1) rfl ?_
    exact ⟨HR.out.2, .inl ⟨0, HF.out, rfl⟩⟩

  have g1 : decide ((n : Int) < 8 + (sz : Int)) = false := decide_eq_false (by omega)
  have HF : Hid (badF l = none) := by show _ = _; unfold badF; rw [if_neg (by rw [HS.out.2.1]; exact HN.out.1), if_neg (by rw [← HY5.out]; exact HN.out.2), if_neg (by rw [HS.out.2.1, ← HSZ.out]; exact hsh)]
  have HSH : Hid (¬ n < 8 + sz) := hsh
  have m0 : (8 : Int) ≤ 8 + (sz : Int) := by omega
  have m1 : 8 + (sz : Int) ≤ (k : Int) := by omega
  have m2 : (8 + (sz : Int)).toNat = 8 + sz := by omega
  have m3 : 8 + sz - 8 = sz := by omega
  have n4 : (4 : Int) < (n : Int) := by omega
  have k4 : (4 : Int) ≤ (k : Int) := by omega
  clear hsh
  obtain ⟨y4, hy4⟩ : ∃ y, y = l.getD 4 0 := ⟨_, rfl⟩
  have HC4 : Hid (∀ W : World, Below w.heap.size w W → W.cell? ⟨b, off + 4, none⟩ = some (.int .u8 (y4 : Int)) ∧ W.cell? ⟨b, off + 5, none⟩ = some (.int .u8 (y5 : Int))) := fun W hW => ⟨by rw [hy4]; exact HC.out W hW 4 (by omega), by rw [HY5.out]; exact HC.out W hW 5 (by omega)⟩
  have hy42 : y4 < 256 := by rw [hy4]; exact get256 HS.out.2.2.1 4
  have HY4 : Hid (y4 = l.getD 4 0) := hy4
  obtain ⟨x4, hx4⟩ : ∃ x, x = num (l.take 4) := ⟨_, rfl⟩
  have hx42 : x4 < 4294967296 := by
    have h1 := num_lt (l.take 4) (fun x hx => HS.out.2.2.1 x (List.mem_of_mem_take hx))
    rw [List.length_take, HS.out.2.1, Nat.min_eq_left (by have := HN.out.1; omega)] at h1
    rw [hx4]; omega
  have Q4 : Hid (∀ A : World, Below w.heap.size w A → Calls Try.prog 19 #[.slice (some ⟨b, off, none⟩) 4 k] A fun e w' => e = .returned (.int .u64 (x4 : Int)) ∧ A = w') := fun A hA => by
    have h1 := HS.out.1.part0 4 (by rw [toI_len, HS.out.2.1]; have := HN.out.1; omega)
    rw [toI_take] at h1
    rw [hx4]
    exact high_any (some ⟨b, off, none⟩) 4 k (l.take 4) A (by rw [List.length_take, HS.out.2.1]; have := HN.out.1; omega) (by decide) (h1.old hA) (fun x hx => HS.out.2.2.1 x (List.mem_of_mem_take hx))
  have HX4 : Hid (x4 = num (l.take 4)) := hx4
  obtain ⟨dd, hdd⟩ : ∃ d, d = (l.drop 8).take sz := ⟨_, rfl⟩
  have HDD : Hid (dd = (l.drop 8).take sz) := hdd
  have HDL : Hid (dd.length = sz) := by show _ = _; rw [hdd, List.length_take, List.length_drop, HS.out.2.1]; have := HSH.out; omega
  obtain ⟨ad, had⟩ : ∃ ad, (if k = 8 then some (⟨b, off, none⟩ : Addr) else some ⟨b, off + 8, none⟩) = ad := ⟨_, rfl⟩
  have QC : Hid (∀ (A : World) (cc : Nat), Below w.heap.size w A → Calls Try.prog 20 #[.slice ad sz cc] A fun e w' => ∃ v, e = .returned v ∧ OwnB w' A.heap.size v sz dd ∧ Below A.heap.size A w') := fun A cc hA => by
    refine bclone_any ad sz cc dd A HDL.out ?_ (by omega)
    by_cases e : k = 8
    · left
      have h0 : dd.length = 0 := by rw [HDL.out]; have := HSH.out; have := HS.out.2.2.2; omega
      rw [List.eq_nil_of_length_eq_zero h0]; rfl
    · rw [if_neg e] at had
      subst had
      have h1 := HS.out.1.part 8 sz (by rw [toI_len, HS.out.2.1]; have := HSH.out; omega)
      rw [toI_drop, toI_take, ← hdd] at h1
      exact h1.old hA
  have wx : IntKind.i64.wrap (x4 : Int) = (x4 : Int) := i64_s _ (by omega) (by omega)
  have wy : IntKind.i64.wrap (y4 : Int) = (y4 : Int) := i64_s _ (by omega) (by omega)
  clear hy4 hx4 hdd
  go_upto_region 8 with fail
  refine MixH.start (fun A => Below w.heap.size w A) (by kernel_rfl) ?_
  obtain ⟨wA, hwA⟩ : ∃ W_, W_ = Y.drew := ⟨_, rfl⟩
  have bdr : Below Y.heap.size Y wA := by rw [hwA]; exact (Below.refl _ _).drew
  have hS : Below w.heap.size w wA := HB.out.trans (bdr.mono HB.out.size)
  have HAA : Hid (CapAt wA O cz ∧ O < wA.heap.size) := ⟨HA.out.below bdr, by have h1 := HO.out.2; have h2 := bdr.size; omega⟩
  rw [← hwA]
  clear hwA bdr
  refine MixH.takes [true, true, false, false, true, true, false, false, true, true, false, false, true, true, true, false, false, true] 11 (by kernel_rfl) (by kernel_rfl) (by decide) (by kernel_rfl) hS (fun K hK => ?_)
  simp only [Mix.pick]
  repeat (go_big_quiet_step (fail))
  refine wpQuiet_nil (hK _ ?_)
  clear hK K
  refine MixH.take 10 6 _ (.int .u8 (y4 : Int)) rfl (by kernel_rfl) (by kernel_rfl) (by kernel_rfl) (by kernel_rfl) (yields_u8 (.tmp 29) rfl ⟨b, off + 4, none⟩ (.int .u8 (y4 : Int)) rfl rfl (fun A hA => (HC4.out A hA).1)) hS (fun a' ha => ?_)
  simp only [Act.put, List.setIfInBounds_toArray, List.set_cons_succ, List.set_cons_zero] at ha
  subst ha
  refine MixH.takes [false, false, false, false, false, false, false, true] 9 (by kernel_rfl) (by kernel_rfl) (by decide) (by kernel_rfl) hS (fun K hK => ?_)
  simp only [Mix.pick]
  repeat (go_big_quiet_step (fail))
  refine wpQuiet_nil (hK _ ?_)
  clear hK K
  refine MixH.take 8 10 _ (.int .u8 (y5 : Int)) rfl (by kernel_rfl) (by kernel_rfl) (by kernel_rfl) (by kernel_rfl) (yields_u8 (.tmp 33) rfl ⟨b, off + 5, none⟩ (.int .u8 (y5 : Int)) rfl rfl (fun A hA => (HC4.out A hA).2)) hS (fun a' ha => ?_)
  simp only [Act.put, List.setIfInBounds_toArray, List.set_cons_succ, List.set_cons_zero] at ha
  subst ha
  refine MixH.takes [false, false, false, false, false, false, false, false, false, false, false, true] 7 (by kernel_rfl) (by kernel_rfl) (by decide) (by kernel_rfl) hS (fun K hK => ?_)
  simp only [Mix.pick]
  repeat (go_big_quiet_step (fail))
  refine wpQuiet_nil (hK _ ?_)
  clear hK K
  refine MixH.one [false, false, true] 6 2 _ rfl rfl (by kernel_rfl) (by kernel_rfl) (fun K hK => ?_)
  simp only [Mix.pick]
  go_wp2_with fail
  refine Calls.mono (Q4.out wA hS) ?_
  rintro e1 w1_ ⟨rfl, rfl⟩
  clear Q4
  go_wp2_with fail
  refine ⟨rfl, hK _ _ hS ?_⟩
  clear hK K
  refine MixH.takes [false, false, false, true] 5 (by kernel_rfl) (by kernel_rfl) (by decide) (by kernel_rfl) hS (fun K hK => ?_)
  simp only [Mix.pick]
  repeat (go_big_quiet_step (fail))
  refine wpQuiet_nil (hK _ ?_)
  clear hK K
  refine MixH.one [false, false, false, false, false, false, false, false, false, false, false, false, false, false, false, true] 4 15 _ rfl rfl (by kernel_rfl) (by kernel_rfl) (fun K hK => ?_)
  simp only [Mix.pick]
  go_wp2_with fail
  refine Calls.mono (QC.out wA _ hS) ?_
  rintro e1 w1_ ⟨v, rfl, ho, hb⟩
  clear QC
  unfold OwnB at ho
  obtain ⟨va, vc, rfl⟩ := owns_shape ho
  have HOW : Hid (OwnB w1_ wA.heap.size (.slice va sz vc) sz dd ∧ CapAt w1_ O cz ∧ w.heap.size ≤ wA.heap.size) := ⟨ho, HAA.out.1.below hb, hS.size⟩
  replace hS : Below w.heap.size w w1_ := hS.trans (hb.mono hS.size)
  clear ho hb
  go_wp2_with fail
  refine ⟨rfl, hK _ _ hS ?_⟩
  clear hK K
  refine MixH.one [false, false, false, false, false, false, false, false, false, false, false, false, false, false, false, false, true] 3 16 _ rfl rfl (by kernel_rfl) (by kernel_rfl) (fun K hK => ?_)
  simp only [Mix.pick]
  refine wpList_bcap (.tmp 27) (.tmp 31) (.tmp 35) (.tmp 39) rfl (x4 : Int) (y4 : Int) ((y5 : Int) == 1) va sz vc rfl rfl rfl rfl rfl ?_
  refine ⟨rfl, hK _ _ hS ?_⟩
  clear hK K
  simp only [Act.put, List.setIfInBounds_toArray, List.set_cons_succ, List.set_cons_zero]
  refine MixH.one [false, false, false, false, false, false, false, false, false, false, false, false, false, false, false, false, false, false, true] 2 18 _ rfl rfl (by kernel_rfl) (by kernel_rfl) (fun K hK => ?_)
  simp only [Mix.pick]
  refine wpList_store_cap (.tmp 2) (.tmp 40) rfl rfl O cz ⟨(x4 : Int), (y4 : Int), (y5 : Int) == 1, dd, va, vc⟩ rfl (by show Value.agg #[_, _, _, .slice va sz vc] = .agg (ceA _); unfold ceA; rw [HDL.out]) HOW.out.2.1 rfl ?_
  intro w5 h5 k5
  have HR : Hid (CapAt w5 O ⟨(x4 : Int), (y4 : Int), (y5 : Int) == 1, dd, va, vc⟩ ∧ OwnB w5 w.heap.size (.slice va sz vc) sz dd ∧ Below w.heap.size w w5) := ⟨h5, owns_mono (k5.owns HOW.out.1 (fun g hg e => by have h1 := (HOW.out.1.lt g hg).1; have h2 := HAA.out.2; omega)) HOW.out.2.2, hS.trans (k5.below (fun q hq => by have := HO.out.1; omega) hS.size)⟩
  replace hS := HR.out.2.2
  clear h5 k5
  refine ⟨rfl, hK _ _ hS ?_⟩
  clear hK K
  refine MixH.takes [false, false, false, false, false, false, false, false, false, false, false, false, false, false, false, false, false, false, false, true, true] 0 (by kernel_rfl) (by kernel_rfl) (by decide) (by kernel_rfl) hS (fun K hK => ?_)
  simp only [Mix.pick]
  repeat (go_big_quiet_step (fail))
  refine wpQuiet_nil (hK _ ?_)
  clear hK K
  refine MixH.done (by kernel_rfl) ?_

  clear hS
  go_wp2_with fail
  refine bodyPost_ret (results_cap_tt rfl _ _ O ⟨(x4 : Int), (y4 : Int), (y5 : Int) == 1, dd, va, vc⟩ rfl HR.out.1) rfl ?_
  have e8 : ((8 + sz : Nat) : Int) = 8 + (sz : Int) := by omega
  have eu : (y5 == 1) = ((y5 : Int) == 1) := by rw [Bool.eq_iff_iff]; simp; omega
  rw [← HSZ.out, ← HDD.out, ← HX4.out, ← HY4.out, ← HY5.out, e8, eu]
  exact ⟨HR.out.2.2, .inr ⟨HF.out, va, vc, HR.out.2.1, rfl⟩⟩
end Go.Proofs.Ytpdfepnifjolkaa
