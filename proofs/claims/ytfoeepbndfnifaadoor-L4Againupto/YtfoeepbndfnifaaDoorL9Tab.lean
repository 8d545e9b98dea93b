/-
  l4's tables; Fields and Pack by them.
-/
import Derived.Test.YtfoeepbndfnifaaDoorL9Fn2
import Derived.Laws.Tables
import Derived.Laws.ResultCell
import Derived.Laws.Rows
import Derived.Deep.MidRow
import Derived.Test.YtfoeepbndfnifaaDoorMixH
namespace Go.Proofs.YtfoeepbndfnifaaDoor.L4U
def ws : List Nat := [16, 16, 16, 16]
def flds (b : Nat → Nat) : List Nat := [b 0 * 256 + b 1, b 2 * 256 + b 3, b 4 * 256 + b 5, b 6 * 256 + b 7]
def bl (b : Nat → Nat) : List Nat := [b 0, b 1, b 2, b 3, b 4, b 5, b 6, b 7]
theorem pack_bl (b : Nat → Nat) : M.packN 0 ws (flds b) = M.numB (bl b) := by
  simp only [ws, flds, bl, M.packN, M.numB, List.foldl_cons, List.foldl_nil]
  omega
theorem fit_flds (b : Nat → Nat) (h : ∀ i, i < 8 → b i < 256) : M.Fit ws (flds b) := by
  simp only [ws, flds, M.Fit]
  have h0 := h 0 (by omega)
  have h1 := h 1 (by omega)
  have h2 := h 2 (by omega)
  have h3 := h 3 (by omega)
  have h4 := h 4 (by omega)
  have h5 := h 5 (by omega)
  have h6 := h 6 (by omega)
  have h7 := h 7 (by omega)
  refine ⟨?_, ?_, ?_, ?_, trivial⟩ <;> omega
theorem tot : M.tot ws = 64 := by decide
theorem fields_bl (b : Nat → Nat) (h : ∀ i, i < 8 → b i < 256) : M.fieldsN 64 (M.numB (bl b)) ws = flds b := by
  rw [← pack_bl, ← tot]
  exact M.fieldsN_packN 0 ws (flds b) (fit_flds b h)
theorem bl_get (b : Nat → Nat) (i : Nat) (h : i < 8) : (bl b).getD i 0 = b i := by
  have : i = 0 ∨ i = 1 ∨ i = 2 ∨ i = 3 ∨ i = 4 ∨ i = 5 ∨ i = 6 ∨ i = 7 := by omega
  rcases this with rfl | rfl | rfl | rfl | rfl | rfl | rfl | rfl <;> rfl
theorem take_bl (l : List Nat) (h : 8 ≤ l.length) : l.take 8 = bl (fun i => l.getD i 0) := by
  refine I4.getD_ext (by simp [bl]; omega) (fun i hi => ?_)
  have hi' : i < 8 := by simp at hi; omega
  rw [bl_get _ _ hi']
  simp [List.getD, hi']
theorem bytes_bl (b : Nat → Nat) (h : ∀ i, i < 8 → b i < 256) : M.bytesN 8 (M.packN 0 ws (flds b)) = bl b := by
  rw [pack_bl]
  refine M.bytesN_numB (bl b) (fun x hx => ?_)
  simp only [bl, List.mem_cons, List.not_mem_nil, or_false] at hx
  rcases hx with rfl | rfl | rfl | rfl | rfl | rfl | rfl | rfl <;> exact h _ (by omega)
end Go.Proofs.YtfoeepbndfnifaaDoor.L4U
namespace Go.Proofs.YtfoeepbndfnifaaDoor.L4T
def ws : List Nat := [16, 16, 32, 32, 4, 4, 8, 16, 16, 16]
def flds (b : Nat → Nat) : List Nat := [b 0 * 256 + b 1, b 2 * 256 + b 3, ((b 4 * 256 + b 5) * 256 + b 6) * 256 + b 7, ((b 8 * 256 + b 9) * 256 + b 10) * 256 + b 11, b 12 / 16, b 12 % 16, b 13, b 14 * 256 + b 15, b 16 * 256 + b 17, b 18 * 256 + b 19]
def bl (b : Nat → Nat) : List Nat := [b 0, b 1, b 2, b 3, b 4, b 5, b 6, b 7, b 8, b 9, b 10, b 11, b 12, b 13, b 14, b 15, b 16, b 17, b 18, b 19]
theorem pack_bl (b : Nat → Nat) : M.packN 0 ws (flds b) = M.numB (bl b) := by
  simp only [ws, flds, bl, M.packN, M.numB, List.foldl_cons, List.foldl_nil]
  omega
theorem fit_flds (b : Nat → Nat) (h : ∀ i, i < 20 → b i < 256) : M.Fit ws (flds b) := by
  simp only [ws, flds, M.Fit]
  have h0 := h 0 (by omega)
  have h1 := h 1 (by omega)
  have h2 := h 2 (by omega)
  have h3 := h 3 (by omega)
  have h4 := h 4 (by omega)
  have h5 := h 5 (by omega)
  have h6 := h 6 (by omega)
  have h7 := h 7 (by omega)
  have h8 := h 8 (by omega)
  have h9 := h 9 (by omega)
  have h10 := h 10 (by omega)
  have h11 := h 11 (by omega)
  have h12 := h 12 (by omega)
  have h13 := h 13 (by omega)
  have h14 := h 14 (by omega)
  have h15 := h 15 (by omega)
  have h16 := h 16 (by omega)
  have h17 := h 17 (by omega)
  have h18 := h 18 (by omega)
  have h19 := h 19 (by omega)
  refine ⟨?_, ?_, ?_, ?_, ?_, ?_, ?_, ?_, ?_, ?_, trivial⟩ <;> omega
theorem tot : M.tot ws = 160 := by decide
theorem fields_bl (b : Nat → Nat) (h : ∀ i, i < 20 → b i < 256) : M.fieldsN 160 (M.numB (bl b)) ws = flds b := by
  rw [← pack_bl, ← tot]
  exact M.fieldsN_packN 0 ws (flds b) (fit_flds b h)
theorem bl_get (b : Nat → Nat) (i : Nat) (h : i < 20) : (bl b).getD i 0 = b i := by
  have : i = 0 ∨ i = 1 ∨ i = 2 ∨ i = 3 ∨ i = 4 ∨ i = 5 ∨ i = 6 ∨ i = 7 ∨ i = 8 ∨ i = 9 ∨ i = 10 ∨ i = 11 ∨ i = 12 ∨ i = 13 ∨ i = 14 ∨ i = 15 ∨ i = 16 ∨ i = 17 ∨ i = 18 ∨ i = 19 := by omega
  rcases this with rfl | rfl | rfl | rfl | rfl | rfl | rfl | rfl | rfl | rfl | rfl | rfl | rfl | rfl | rfl | rfl | rfl | rfl | rfl | rfl <;> rfl
theorem take_bl (l : List Nat) (h : 20 ≤ l.length) : l.take 20 = bl (fun i => l.getD i 0) := by
  refine I4.getD_ext (by simp [bl]; omega) (fun i hi => ?_)
  have hi' : i < 20 := by simp at hi; omega
  rw [bl_get _ _ hi']
  simp [List.getD, hi']
theorem bytes_bl (b : Nat → Nat) (h : ∀ i, i < 20 → b i < 256) : M.bytesN 20 (M.packN 0 ws (flds b)) = bl b := by
  rw [pack_bl]
  refine M.bytesN_numB (bl b) (fun x hx => ?_)
  simp only [bl, List.mem_cons, List.not_mem_nil, or_false] at hx
  rcases hx with rfl | rfl | rfl | rfl | rfl | rfl | rfl | rfl | rfl | rfl | rfl | rfl | rfl | rfl | rfl | rfl | rfl | rfl | rfl | rfl <;> exact h _ (by omega)
end Go.Proofs.YtfoeepbndfnifaaDoor.L4T
namespace Go.Proofs.YtfoeepbndfnifaaDoor
open Go.RowKit
open L4 (U9 T9)
theorem own_below {w w' : World} {base : Nat} {e : TypeId} {sz : Nat} {v : Value} {n : Nat} {xs : List Value} (h : w.ownsRow base e sz v n xs) (hb : Below w.heap.size w w') : w'.ownsRow base e sz v n xs := (Ch.ofBelow (S := fun _ => False) hb).owns h (fun _ _ k => k)
theorem yields_int {ops : Array Oper} {o : Oper} {a : Act} {S : World → Prop} (x : Operand) (ho : o.op = .load 3 x) (p : Addr) (u : Value) (hx : a.eval x = .pointer (some p)) (hw : Region.wanted o (yielded ops a.tmps) = true) (hS : ∀ w, S w → w.cell? p = some u) : YieldsIf Tryd.prog ops S o u a := by
  refine .inl ⟨hw, fun w hb => ?_⟩
  have hc := hS w hb
  have hu := Tryd.underlying3
  obtain ⟨dst, op, type, pos, after, guard⟩ := o
  simp only at ho
  subst ho
  simp only [execOp, Sem.run_bind, Sem.run_pure]
  rw [hx]
  simp [Instr.loadAt, go_sem, hc]
theorem cells14 (W : World) (l : List Int) (t : TypeId) : Seg .i64 (W.alloc (.cells (l.map (Value.int .i64)).toArray t)) (some ⟨W.heap.size, 0, none⟩) l := by
  refine .inr ⟨_, _, rfl, ?_⟩
  intro i hi
  rw [Nat.zero_add, World.cell?_alloc_at _ _ _ _ rfl]
  simp [List.getD, hi]
theorem fit_fitI (ws fs : List Nat) (h : M.Fit ws fs) : ∀ j, j < ws.length → 0 ≤ (toI fs).getD j 0 ∧ (toI fs).getD j 0 < 2 ^ (ws.getD j 0) := by
  induction ws generalizing fs with
  | nil => intro j hj; simp at hj
  | cons w ws ih =>
    cases fs with
    | nil => exact absurd h (by simp [M.Fit])
    | cons f fs =>
      obtain ⟨h1, h2⟩ := h
      intro j hj
      cases j with
      | zero => simp [toI]; exact_mod_cast h1
      | succ j =>
        have := ih fs h2 j (by simpa using hj)
        simpa [toI] using this
theorem vOf_all (ws fs : List Nat) (h : fs.length = ws.length) : vOf ws (toI fs) ws.length = M.packN 0 ws fs := by
  unfold vOf
  have e : (toI fs).map Int.toNat = fs := by
    simp only [toI, List.map_map]
    conv => rhs; rw [← List.map_id fs]
    apply List.map_congr_left
    intro x _
    simp
  rw [e, List.take_of_length_le (by omega), List.take_of_length_le (by omega)]
theorem yields_box {ops : Array Oper} {o : Oper} {a : Act} {S : World → Prop} (ty : TypeId) (x : Operand) (ho : o.op = .load ty x) (p : Addr) (cs : Array Value) (hx : a.eval x = .pointer (some p)) (hw : Region.wanted o (yielded ops a.tmps) = true)
    (hS : ∀ w, S w → (loadVar ty p).run Tryd.prog w = .ok (.agg cs) w) : YieldsIf Tryd.prog ops S o (.agg cs) a := by
  refine .inl ⟨hw, fun w hb => ?_⟩
  unfold execOp
  simp only [ho, hx, Instr.loadAt, Instr.sureAddr, Sem.run_bind, Sem.run_pure, Result.andThen_ok, hS w hb]
theorem yields_bytes {ops : Array Oper} {o : Oper} {a : Act} {S : World → Prop} (x : Operand) (ho : o.op = .load 25 x) (p : Addr) (u : Value) (hx : a.eval x = .pointer (some p)) (hw : Region.wanted o (yielded ops a.tmps) = true) (hS : ∀ w, S w → w.cell? p = some u) : YieldsIf Tryd.prog ops S o u a := by
  refine .inl ⟨hw, fun w hb => ?_⟩
  have hc := hS w hb
  have hu := Tryd.underlying25
  obtain ⟨dst, op, type, pos, after, guard⟩ := o
  simp only at ho
  subst ho
  simp only [execOp, Sem.run_bind, Sem.run_pure]
  rw [hx]
  simp [Instr.loadAt, go_sem, hc]
theorem yields_ip {ops : Array Oper} {o : Oper} {a : Act} {S : World → Prop} (x : Operand) (ho : o.op = .load 24 x) (B : Nat) (V : Int) (f : Nat → Nat) (hx : a.eval x = .pointer (some ⟨B, 0, none⟩)) (hw : Region.wanted o (yielded ops a.tmps) = true) (hS : ∀ w, S w → Boxed w B V f) : YieldsIf Tryd.prog ops S o (.agg (ipCells V f)) a := by
  refine .inl ⟨hw, fun w hb => ?_⟩
  have hl := load_ip w B V f (hS w hb)
  obtain ⟨dst, op, type, pos, after, guard⟩ := o
  simp only at ho
  subst ho
  simp only [execOp, Sem.run_bind, Sem.run_pure]
  rw [hx, hl]
  rfl
/-- the table lies where the program has it -/
def UW (w : World) : Prop := w.rangeAt 0 0 [.int .i64 16, .int .i64 16, .int .i64 16, .int .i64 16]
theorem UW.lt {w : World} (h : UW w) : 0 < w.heap.size := World.block_lt_of_cell? w _ (h 0 _ rfl)
theorem UW.old {w w' : World} (h : UW w) (hb : Below w.heap.size w w') : UW w' := fun j v hv => (hb.cell (p := ⟨0, 0 + j, none⟩) h.lt).trans (h j v hv)
theorem UW.ch {S : Nat → Prop} {w w' : World} (h : UW w) (k : Ch S w w') (hS : ¬ S 0) : UW w' := fun j v hv => k.cell (h j v hv) hS
theorem segU (w : World) : Seg .i64 (w.alloc (.cells #[.int .i64 16, .int .i64 16, .int .i64 16, .int .i64 16] 77)) (some ⟨w.heap.size, 0, none⟩) (toI L4U.ws) := by
  refine .inr ⟨_, _, rfl, ?_⟩
  intro i hi
  rw [Nat.zero_add, World.cell?_alloc_at _ _ _ _ rfl]
  have hk : i < 4 := hi
  have : i = 0 ∨ i = 1 ∨ i = 2 ∨ i = 3 := by omega
  rcases this with rfl | rfl | rfl | rfl <;> rfl
theorem okU : ∀ x ∈ L4U.ws, 1 ≤ x ∧ x ≤ 32 := by decide
theorem fieldsU_no (a b : Option Addr) (len cap : Nat) (W : World) (hs : Seg .i64 W b (toI L4U.ws)) (hl : len < 8) (h2 : len ≤ cap) (h3 : cap ≤ 9223372036854775807) :
    Calls Tryd.prog 31 #[.slice a len cap, .int .i64 0, .slice b 4 4] W fun e w' => e = .returned (.tuple #[.slice none 0 0, .int .i64 0, .int .i64 10]) ∧ Below W.heap.size W w' := by
  have e8 : sumI (toI L4U.ws) / 8 = 8 := by decide
  exact fields_out a b len cap 4 0 (toI L4U.ws) W hs (by decide) (by decide) h2 h3 (by decide) (.inr (by rw [e8]; omega))
theorem fieldsU_ok (a b : Option Addr) (n cap : Nat) (bs : List Nat) (W : World) (hn : bs.length = n) (hb : Seg .u8 W a (toI bs)) (h256 : ∀ x ∈ bs, x < 256) (hs : Seg .i64 W b (toI L4U.ws)) (hl : 8 ≤ n) (h2 : n ≤ cap) (h3 : cap ≤ 9223372036854775807) :
    Calls Tryd.prog 31 #[.slice a n cap, .int .i64 0, .slice b 4 4] W fun e w' => ∃ g c, e = .returned (.tuple #[.slice (some ⟨g, 0, none⟩) 4 c, .int .i64 8, .int .i64 0]) ∧ Below W.heap.size W w' ∧ 4 ≤ c ∧ c ≤ 9223372036854775807 ∧ W.heap.size ≤ g ∧ g < w'.heap.size ∧
      w'.cell? ⟨g, 0, none⟩ = some (.int .i64 ((((bs.getD 0 0) * 256 + (bs.getD 1 0) : Nat)) : Int)) ∧ w'.cell? ⟨g, 1, none⟩ = some (.int .i64 ((((bs.getD 2 0) * 256 + (bs.getD 3 0) : Nat)) : Int)) ∧ w'.cell? ⟨g, 2, none⟩ = some (.int .i64 ((((bs.getD 4 0) * 256 + (bs.getD 5 0) : Nat)) : Int)) ∧ w'.cell? ⟨g, 3, none⟩ = some (.int .i64 ((((bs.getD 6 0) * 256 + (bs.getD 7 0) : Nat)) : Int)) := by
  subst hn
  refine (fields_ok a b cap 4 0 8 bs L4U.ws W hb hs h256 (by decide) okU (by rw [L4U.tot]) (by omega) h2 h3).mono ?_
  rintro e w' ⟨v, rfl, ho, hbb⟩
  rw [L4U.tot, List.drop_zero, L4U.take_bl bs hl, L4U.fields_bl _ (fun i _ => I4.getD_lt bs h256 i), toI_map] at ho
  obtain ⟨g, c, rfl, hc1, hc2⟩ := own_block ho (by decide)
  refine ⟨g, c, rfl, hbb, hc1, by unfold maxLen at hc2; exact hc2, (ho.lt g rfl).1, (ho.lt g rfl).2, ?_⟩
  obtain ⟨a', c', e1, hseg, _, _⟩ := owns_seg ho
  simp only [Value.slice.injEq] at e1
  obtain ⟨rfl, _⟩ := e1
  obtain ⟨b', off, e2, hcell⟩ : ∃ b' off, (some ⟨g, 0, none⟩ : Option Addr) = some ⟨b', off, none⟩ ∧ ∀ i, i < (toI (L4U.flds (fun i => bs.getD i 0))).length → w'.cell? ⟨b', off + i, none⟩ = some (.int .i64 ((toI (L4U.flds (fun i => bs.getD i 0))).getD i 0)) := by
    rcases hseg with h0 | h0
    · cases h0
    · exact h0
  simp only [Option.some.injEq, Addr.mk.injEq] at e2
  obtain ⟨rfl, rfl, _⟩ := e2
  exact ⟨hcell 0 (by simp [toI, L4U.flds]), hcell 1 (by simp [toI, L4U.flds]), hcell 2 (by simp [toI, L4U.flds]), hcell 3 (by simp [toI, L4U.flds])⟩
/-- the table lies where the program has it -/
def TW (w : World) : Prop := w.rangeAt 1 0 [.int .i64 16, .int .i64 16, .int .i64 32, .int .i64 32, .int .i64 4, .int .i64 4, .int .i64 8, .int .i64 16, .int .i64 16, .int .i64 16]
theorem TW.lt {w : World} (h : TW w) : 1 < w.heap.size := World.block_lt_of_cell? w _ (h 0 _ rfl)
theorem TW.old {w w' : World} (h : TW w) (hb : Below w.heap.size w w') : TW w' := fun j v hv => (hb.cell (p := ⟨1, 0 + j, none⟩) h.lt).trans (h j v hv)
theorem TW.ch {S : Nat → Prop} {w w' : World} (h : TW w) (k : Ch S w w') (hS : ¬ S 1) : TW w' := fun j v hv => k.cell (h j v hv) hS
theorem segT (w : World) : Seg .i64 (w.alloc (.cells #[.int .i64 16, .int .i64 16, .int .i64 32, .int .i64 32, .int .i64 4, .int .i64 4, .int .i64 8, .int .i64 16, .int .i64 16, .int .i64 16] 84)) (some ⟨w.heap.size, 0, none⟩) (toI L4T.ws) := by
  refine .inr ⟨_, _, rfl, ?_⟩
  intro i hi
  rw [Nat.zero_add, World.cell?_alloc_at _ _ _ _ rfl]
  have hk : i < 10 := hi
  have : i = 0 ∨ i = 1 ∨ i = 2 ∨ i = 3 ∨ i = 4 ∨ i = 5 ∨ i = 6 ∨ i = 7 ∨ i = 8 ∨ i = 9 := by omega
  rcases this with rfl | rfl | rfl | rfl | rfl | rfl | rfl | rfl | rfl | rfl <;> rfl
theorem okT : ∀ x ∈ L4T.ws, 1 ≤ x ∧ x ≤ 32 := by decide
theorem fieldsT_no (a b : Option Addr) (len cap : Nat) (W : World) (hs : Seg .i64 W b (toI L4T.ws)) (hl : len < 20) (h2 : len ≤ cap) (h3 : cap ≤ 9223372036854775807) :
    Calls Tryd.prog 31 #[.slice a len cap, .int .i64 0, .slice b 10 10] W fun e w' => e = .returned (.tuple #[.slice none 0 0, .int .i64 0, .int .i64 10]) ∧ Below W.heap.size W w' := by
  have e8 : sumI (toI L4T.ws) / 8 = 20 := by decide
  exact fields_out a b len cap 10 0 (toI L4T.ws) W hs (by decide) (by decide) h2 h3 (by decide) (.inr (by rw [e8]; omega))
theorem fieldsT_ok (a b : Option Addr) (n cap : Nat) (bs : List Nat) (W : World) (hn : bs.length = n) (hb : Seg .u8 W a (toI bs)) (h256 : ∀ x ∈ bs, x < 256) (hs : Seg .i64 W b (toI L4T.ws)) (hl : 20 ≤ n) (h2 : n ≤ cap) (h3 : cap ≤ 9223372036854775807) :
    Calls Tryd.prog 31 #[.slice a n cap, .int .i64 0, .slice b 10 10] W fun e w' => ∃ g c, e = .returned (.tuple #[.slice (some ⟨g, 0, none⟩) 10 c, .int .i64 20, .int .i64 0]) ∧ Below W.heap.size W w' ∧ 10 ≤ c ∧ c ≤ 9223372036854775807 ∧ W.heap.size ≤ g ∧ g < w'.heap.size ∧
      w'.cell? ⟨g, 0, none⟩ = some (.int .i64 ((((bs.getD 0 0) * 256 + (bs.getD 1 0) : Nat)) : Int)) ∧ w'.cell? ⟨g, 1, none⟩ = some (.int .i64 ((((bs.getD 2 0) * 256 + (bs.getD 3 0) : Nat)) : Int)) ∧ w'.cell? ⟨g, 2, none⟩ = some (.int .i64 ((((((bs.getD 4 0) * 256 + (bs.getD 5 0)) * 256 + (bs.getD 6 0)) * 256 + (bs.getD 7 0) : Nat)) : Int)) ∧ w'.cell? ⟨g, 3, none⟩ = some (.int .i64 ((((((bs.getD 8 0) * 256 + (bs.getD 9 0)) * 256 + (bs.getD 10 0)) * 256 + (bs.getD 11 0) : Nat)) : Int)) ∧ w'.cell? ⟨g, 4, none⟩ = some (.int .i64 ((((bs.getD 12 0) / 16 : Nat)) : Int)) ∧ w'.cell? ⟨g, 6, none⟩ = some (.int .i64 ((((bs.getD 13 0) : Nat)) : Int)) ∧ w'.cell? ⟨g, 7, none⟩ = some (.int .i64 ((((bs.getD 14 0) * 256 + (bs.getD 15 0) : Nat)) : Int)) ∧ w'.cell? ⟨g, 9, none⟩ = some (.int .i64 ((((bs.getD 18 0) * 256 + (bs.getD 19 0) : Nat)) : Int)) := by
  subst hn
  refine (fields_ok a b cap 10 0 20 bs L4T.ws W hb hs h256 (by decide) okT (by rw [L4T.tot]) (by omega) h2 h3).mono ?_
  rintro e w' ⟨v, rfl, ho, hbb⟩
  rw [L4T.tot, List.drop_zero, L4T.take_bl bs hl, L4T.fields_bl _ (fun i _ => I4.getD_lt bs h256 i), toI_map] at ho
  obtain ⟨g, c, rfl, hc1, hc2⟩ := own_block ho (by decide)
  refine ⟨g, c, rfl, hbb, hc1, by unfold maxLen at hc2; exact hc2, (ho.lt g rfl).1, (ho.lt g rfl).2, ?_⟩
  obtain ⟨a', c', e1, hseg, _, _⟩ := owns_seg ho
  simp only [Value.slice.injEq] at e1
  obtain ⟨rfl, _⟩ := e1
  obtain ⟨b', off, e2, hcell⟩ : ∃ b' off, (some ⟨g, 0, none⟩ : Option Addr) = some ⟨b', off, none⟩ ∧ ∀ i, i < (toI (L4T.flds (fun i => bs.getD i 0))).length → w'.cell? ⟨b', off + i, none⟩ = some (.int .i64 ((toI (L4T.flds (fun i => bs.getD i 0))).getD i 0)) := by
    rcases hseg with h0 | h0
    · cases h0
    · exact h0
  simp only [Option.some.injEq, Addr.mk.injEq] at e2
  obtain ⟨rfl, rfl, _⟩ := e2
  exact ⟨hcell 0 (by simp [toI, L4T.flds]), hcell 1 (by simp [toI, L4T.flds]), hcell 2 (by simp [toI, L4T.flds]), hcell 3 (by simp [toI, L4T.flds]), hcell 4 (by simp [toI, L4T.flds]), hcell 6 (by simp [toI, L4T.flds]), hcell 7 (by simp [toI, L4T.flds]), hcell 9 (by simp [toI, L4T.flds])⟩

def uF (u : U9) (n : Nat) : List Int := [u.sp, u.dp, (n : Int), 0]
theorem packU_ok (a b : Option Addr) (u : U9) (n : Nat) (W : World) (hn : 8 + u.d.length = n) (hc : ∃ v, L4.uChk v u = 0) (h1 : Seg .i64 W a (toI L4U.ws)) (h2 : Seg .i64 W b (uF u n)) :
    Calls Tryd.prog 44 #[.slice a 4 4, .slice b 4 4] W fun e w' => ∃ g c, e = .returned (.tuple #[.slice (some ⟨g, 0, none⟩) 8 c, .int .i64 0]) ∧ Below W.heap.size W w' ∧ 8 ≤ c ∧ c ≤ 9223372036854775807 ∧ OwnB w' W.heap.size (.slice (some ⟨g, 0, none⟩) 8 c) 8 (L4.uHd u 0) := by
  obtain ⟨v, hc⟩ := hc
  obtain ⟨_, q1, q2, _, q3⟩ := L4.uChk_zero hc
  obtain ⟨s, hs⟩ : ∃ s : Nat, u.sp = s := ⟨u.sp.toNat, by omega⟩
  obtain ⟨d, hd⟩ : ∃ d : Nat, u.dp = d := ⟨u.dp.toNat, by omega⟩
  have em : uF u n = toI [s, d, n, 0] := by unfold uF; rw [hs, hd]; rfl
  have hb : ∀ i, i < 8 → (fun i => (L4.uHd u 0).getD i 0) i < 256 := fun i _ => I4.getD_lt _ (L4.uHd_256 u 0 q1.2 q2.2 q3 (by omega)) i
  have ef : L4U.flds (fun i => (L4.uHd u 0).getD i 0) = [s, d, n, 0] := by
    unfold L4U.flds L4.uHd
    rw [hs, hd, hn]
    simp only [Int.toNat_natCast, List.getD, List.getElem?_cons_zero, List.getElem?_cons_succ, Option.getD_some, List.cons.injEq, and_true]
    omega
  have hfit : M.Fit L4U.ws [s, d, n, 0] := by rw [← ef]; exact L4U.fit_flds _ hb
  have ebl : L4U.bl (fun i => (L4.uHd u 0).getD i 0) = L4.uHd u 0 := rfl
  rw [em] at h2
  refine (pack_any a b 4 4 8 L4U.ws (toI [s, d, n, 0]) W h1 h2 rfl (by decide) okU (by rw [L4U.tot])).mono ?_
  rintro e w' ⟨v, er, rfl, hbb, hh⟩
  rcases hh with ⟨_, rfl, ho⟩ | ⟨hno, _⟩
  · rw [vOf_all L4U.ws [s, d, n, 0] rfl, bytesV, ← ef, L4U.bytes_bl _ hb, ebl, toI_map] at ho
    obtain ⟨g, cc, rfl, hc1, hc2⟩ := own_block ho (by decide)
    exact ⟨g, cc, rfl, hbb, hc1, by unfold maxLen at hc2; exact hc2, ho⟩
  · exact absurd (fit_fitI _ _ hfit) hno
def tF (t : T9) (h : Int) : List Int := [t.sp, t.dp, t.sq, t.ak, h, 0, t.fl, t.wi, 0, t.ur]
set_option maxRecDepth 100000 in
theorem packT_ok (a b : Option Addr) (t : T9) (h : Nat) (W : World) (hh : h = L4.tHs t / 4) (hf : L4.tOkF t = true) (h1 : Seg .i64 W a (toI L4T.ws)) (h2 : Seg .i64 W b (tF t h)) :
    Calls Tryd.prog 44 #[.slice a 10 10, .slice b 10 10] W fun e w' => ∃ g c, e = .returned (.tuple #[.slice (some ⟨g, 0, none⟩) 20 c, .int .i64 0]) ∧ Below W.heap.size W w' ∧ 20 ≤ c ∧ c ≤ 9223372036854775807 ∧ OwnB w' W.heap.size (.slice (some ⟨g, 0, none⟩) 20 c) 20 (L4.tHd t 0) := by
  obtain ⟨q1, q2, q3, q4, q5, q6, q7⟩ := (L4.tOkF_iff t).1 hf
  have hb0 := L4.tHs_b t
  obtain ⟨x1, e1⟩ : ∃ s : Nat, t.sp = s := ⟨t.sp.toNat, by omega⟩
  obtain ⟨x2, e2⟩ : ∃ s : Nat, t.dp = s := ⟨t.dp.toNat, by omega⟩
  obtain ⟨x3, e3⟩ : ∃ s : Nat, t.sq = s := ⟨t.sq.toNat, by omega⟩
  obtain ⟨x4, e4⟩ : ∃ s : Nat, t.ak = s := ⟨t.ak.toNat, by omega⟩
  obtain ⟨x5, e5⟩ : ∃ s : Nat, t.fl = s := ⟨t.fl.toNat, by omega⟩
  obtain ⟨x6, e6⟩ : ∃ s : Nat, t.wi = s := ⟨t.wi.toNat, by omega⟩
  obtain ⟨x7, e7⟩ : ∃ s : Nat, t.ur = s := ⟨t.ur.toNat, by omega⟩
  have em : tF t h = toI [x1, x2, x3, x4, h, 0, x5, x6, 0, x7] := by unfold tF; rw [e1, e2, e3, e4, e5, e6, e7]; rfl
  have hb : ∀ i, i < 20 → (fun i => (L4.tHd t 0).getD i 0) i < 256 := fun i _ => I4.getD_lt _ (L4.tHd_256 t 0 hf (by omega)) i
  have ef : L4T.flds (fun i => (L4.tHd t 0).getD i 0) = [x1, x2, x3, x4, h, 0, x5, x6, 0, x7] := by
    unfold L4T.flds L4.tHd
    rw [e1, e2, e3, e4, e5, e6, e7, hh]
    simp only [Int.toNat_natCast, List.getD, List.getElem?_cons_zero, List.getElem?_cons_succ, Option.getD_some, List.cons.injEq, and_true, true_and]
    omega
  have hfit : M.Fit L4T.ws [x1, x2, x3, x4, h, 0, x5, x6, 0, x7] := by rw [← ef]; exact L4T.fit_flds _ hb
  have ebl : L4T.bl (fun i => (L4.tHd t 0).getD i 0) = L4.tHd t 0 := rfl
  rw [em] at h2
  refine (pack_any a b 10 10 20 L4T.ws (toI [x1, x2, x3, x4, h, 0, x5, x6, 0, x7]) W h1 h2 rfl (by decide) okT (by rw [L4T.tot])).mono ?_
  rintro e w' ⟨v, er, rfl, hbb, hq⟩
  rcases hq with ⟨_, rfl, ho⟩ | ⟨hno, _⟩
  · rw [vOf_all L4T.ws [x1, x2, x3, x4, h, 0, x5, x6, 0, x7] rfl, bytesV, ← ef, L4T.bytes_bl _ hb, ebl, toI_map] at ho
    obtain ⟨g, cc, rfl, hc1, hc2⟩ := own_block ho (by decide)
    exact ⟨g, cc, rfl, hbb, hc1, by unfold maxLen at hc2; exact hc2, ho⟩
  · exact absurd (fit_fitI _ _ hfit) hno
end Go.Proofs.YtfoeepbndfnifaaDoor
