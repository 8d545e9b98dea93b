/-
  Layer 18: one place in memory for lists of classes: lay.
-/
import Derived.Test.YtcdbhkihbfjedaaQP4
namespace Go.Proofs.Ytcdbhkihbfjedaa
open Go.RowKit Go.ChangeShapes Go.WideShapes

structure RM where
  la : Option Addr
  n : Nat
  c : Nat
  N : Int
def rmA (s : RM) : Array Value := #[.slice s.la s.n s.c, .int .i64 s.N]
def rmz : RM := ⟨none, 0, 0, 0⟩
theorem Try.size_rmv : (Try.prog.info? 77).map (·.size) = some 2 := by kernel_rfl
def RmvAt (w : World) (O : Nat) (rm : RM) : Prop := w.heap[O]? = some (.cells (rmA rm) 77 (0, 0))
section
variable {w : World} {O : Nat} {rm : RM} (k : RmvAt w O rm)
include k
theorem RmvAt.lt : O < w.heap.size := (Array.getElem?_eq_some_iff.1 k).1
theorem RmvAt.ch {S : Nat → Prop} {w' : World} (c : Ch S w w') (hS : ¬ S O) : RmvAt w' O rm := (c.block O k.lt hS).trans k
theorem RmvAt.below {w' : World} (c : Below w.heap.size w w') : RmvAt w' O rm := (c.block O k.lt).trans k
theorem RmvAt.cell (i : Nat) : w.cell? ⟨O, i, none⟩ = (rmA rm)[i]? := by unfold RmvAt at k; simp [World.cell?, k]
theorem RmvAt.fz (j : Nat) : w.frozen? ⟨O, j, none⟩ = false := by unfold RmvAt at k; simp [World.frozen?, k]
theorem RmvAt.range (o n : Nat) : w.rangeAt O o (((rmA rm).extract o (o + n)).toList) := World.rangeAt_of_block k o n
end
theorem rmv_new (w : World) (rm : RM) : RmvAt (w.alloc (.cells (rmA rm) 77)) w.heap.size rm := heap_alloc_new _ _
theorem wpList_load_rmv {ops : Array Oper} {rest : List Oper} {o : Oper} {a : Act} {w : World} {Q : Exit → Act → World → Prop} (x : Operand) (ho : o.op = .load 77 x) (O : Nat) (rm : RM) (hx : a.eval x = .pointer (some ⟨O, 0, none⟩)) (hb : RmvAt w O rm)
    (hw : Region.wanted o (yielded ops a.tmps) = true) (hh : wpList Try.prog ops Q rest (a.put o.dst (.agg (rmA rm))) w) : wpList Try.prog ops Q (o :: rest) a w := by
  refine wpList_step fun K hK => ?_
  rw [if_pos hw]
  exact wp_load_row 77 x ho O hx _ _ _ _ hb Try.underlying77 rfl Try.size_rmv (hK _ _ hh)
theorem wpList_store_rmv {ops : Array Oper} {rest : List Oper} {o : Oper} {a : Act} {w : World} {Q : Exit → Act → World → Prop} (x y : Operand) (ho : o.op = .store 77 x y) (hd : o.dst = none) (O : Nat) (rm : RM) (rm' : RM) (hx : a.eval x = .pointer (some ⟨O, 0, none⟩)) (hy : a.eval y = .agg (rmA rm')) (hb : RmvAt w O rm)
    (hw : Region.wanted o (yielded ops a.tmps) = true) (hh : ∀ w', RmvAt w' O rm' → Ch (fun q => q = O) w w' → wpList Try.prog ops Q rest a w') : wpList Try.prog ops Q (o :: rest) a w := by
  refine wpList_step fun K hK => ?_
  rw [if_pos hw]
  refine wp_store_row 77 x y ho O (rmA rm') hx hy _ (rmA rm) hb Try.size_rmv rfl (by simp [rmA, Value.oneCell']) (hK _ _ ?_)
  rw [hd]
  refine hh _ (setRow_heap w O _ _ _ _ hb) ⟨rfl, rfl, rfl, ?_, ?_⟩
  · simp [World.setRow]
  · intro k hk hne
    simp only [World.setRow]
    rw [Array.getElem?_modify, if_neg (fun e => hne e.symm)]
theorem wpList_alloc_rmv {ops : Array Oper} {rest : List Oper} {o : Oper} {a : Act} {w : World} {Q : Exit → Act → World → Prop} (ho : o.op = .alloc 77) (hw : Region.wanted o (yielded ops a.tmps) = true)
    (h : wpList Try.prog ops Q rest (a.put o.dst (.pointer (some ⟨w.heap.size, 0, none⟩))) (w.alloc (.cells (rmA rmz) 77))) : wpList Try.prog ops Q (o :: rest) a w := by
  refine wpList_step fun K hK => ?_
  rw [if_pos hw]
  have hrun : (execOp a.eval o).run Try.prog w = .ok (.value (.pointer (some ⟨w.heap.size, 0, none⟩))) (w.alloc (.cells (rmA rmz) 77)) := by
    obtain ⟨dst, op, type, pos, after, guard⟩ := o
    simp only at ho
    subst ho
    simp only [execOp]
    go_simp
    rfl
  unfold Oper.wp
  rw [hrun]
  exact hK _ _ h
theorem yields_rmv {ops : Array Oper} {o : Oper} {a : Act} {S : World → Prop} (x : Operand) (ho : o.op = .load 77 x) (O off : Nat) (rm : RM) (hx : a.eval x = .pointer (some ⟨O, off, none⟩)) (hw : Region.wanted o (yielded ops a.tmps) = true) (hS : ∀ w, S w → w.rangeAt O off (rmA rm).toList) : YieldsIf Try.prog ops S o (.agg (rmA rm)) a :=
  yieldsIf_load_mid hw 77 x ho O off hx (rmA rm).toList _ hS Try.underlying77 rfl Try.size_rmv
theorem wpList_mid_rmv {ops : Array Oper} {rest : List Oper} {o : Oper} {a : Act} {w : World} {Q : Exit → Act → World → Prop} (x : Operand) (ho : o.op = .load 77 x) (O off : Nat) (rm : RM) (hx : a.eval x = .pointer (some ⟨O, off, none⟩)) (hb : w.rangeAt O off (rmA rm).toList)
    (hw : Region.wanted o (yielded ops a.tmps) = true) (h : wpList Try.prog ops Q rest (a.put o.dst (.agg (rmA rm))) w) : wpList Try.prog ops Q (o :: rest) a w := by
  refine wpList_step fun K hK => ?_
  rw [if_pos hw]
  exact wp_load_mid 77 x ho O off hx (rmA rm).toList _ hb Try.underlying77 rfl Try.size_rmv (hK _ _ h)
theorem results_rmv {fn : Func} {p : Tmp} (h : fn.results = #[.cell p 77]) (tmps : Array Value) (w : World) (O : Nat) (rm : RM) (hp : tmps.getD p undef = .pointer (some ⟨O, 0, none⟩)) (hb : RmvAt w O rm) :
    (results fn tmps).run Try.prog w = .ok (.agg (rmA rm)) w :=
  results_cell_row h tmps w O _ (rmA rm) _ _ hp hb Try.underlying77 rfl Try.size_rmv
theorem wpList_box_rmv {ops : Array Oper} {rest : List Oper} {o : Oper} {a : Act} {w : World} {Q : Exit → Act → World → Prop} (x : Operand) (ho : o.op = .box 77 x) (rm : RM) (hx : a.eval x = .agg (rmA rm)) (hw : Region.wanted o (yielded ops a.tmps) = true)
    (h : ∀ B W, Hid (w.heap.size = B ∧ W.heap.size = B + 1) → RmvAt W B rm → Below w.heap.size w W → wpList Try.prog ops Q rest (a.put o.dst (.pointer (some ⟨B, 0, none⟩))) W) : wpList Try.prog ops Q (o :: rest) a w := by
  refine wpList_step fun K hK => ?_
  rw [if_pos hw]
  have hrun : (execOp a.eval o).run Try.prog w = .ok (.value (.pointer (some ⟨w.heap.size, 0, none⟩))) (w.alloc (.cells (rmA rm) 77)) := by
    obtain ⟨dst, op, type, pos, after, guard⟩ := o
    simp only at ho
    subst ho
    simp only [execOp, hx]
    go_simp
  unfold Oper.wp
  rw [hrun]
  exact hK _ _ (h _ _ ⟨rfl, World.size_alloc _ _⟩ (rmv_new _ _) ((Below.refl _ _).alloc (Nat.le_refl _) _))
theorem wpList_nil_rmv {ops : Array Oper} {rest : List Oper} {o : Oper} {a : Act} {w : World} {Q : Exit → Act → World → Prop} (ho : o.op = .alloc 77) (hw : Region.wanted o (yielded ops a.tmps) = true)
    (h : ∀ B W, Hid (w.heap.size = B ∧ W.heap.size = B + 1) → RmvAt W B rmz → Below w.heap.size w W → wpList Try.prog ops Q rest (a.put o.dst (.pointer (some ⟨B, 0, none⟩))) W) : wpList Try.prog ops Q (o :: rest) a w :=
  wpList_alloc_rmv ho hw (h _ _ ⟨rfl, World.size_alloc _ _⟩ (rmv_new _ _) ((Below.refl _ _).alloc (Nat.le_refl _) _))
theorem run_bq1 (z : Int) (w : World) : (Instr.build 36 #[(0, .int .i64 z)]).run Try.prog w = .ok (.agg (liA ⟨z, 0, 0, 0, 0⟩)) w := by kernel_rfl
theorem wpList_bq1 {ops : Array Oper} {rest : List Oper} {o : Oper} {a_ : Act} {w : World} {Q : Exit → Act → World → Prop} (y0 : Operand) (ho : o.op = .build 36 #[(0, y0)]) (z : Int) (h0 : a_.eval y0 = .int .i64 z) (hw : Region.wanted o (yielded ops a_.tmps) = true)
    (h : wpList Try.prog ops Q rest (a_.put o.dst (.agg (liA ⟨z, 0, 0, 0, 0⟩))) w) : wpList Try.prog ops Q (o :: rest) a_ w := by
  refine wpList_step fun K hK => ?_
  rw [if_pos hw]
  have hrun : (execOp a_.eval o).run Try.prog w = .ok (.value (.agg (liA ⟨z, 0, 0, 0, 0⟩))) w := by
    obtain ⟨dst, op, type, pos, after, guard⟩ := o
    simp only at ho
    subst ho
    simp only [execOp, Sem.run_bind, List.map_toArray, List.map_cons, List.map_nil, h0, run_bq1 z w, Result.andThen_ok]
    rfl
  unfold Oper.wp
  rw [hrun]
  exact hK _ _ h

theorem zero_li : ∃ i, Try.prog.info? 36 = some i ∧ i.zero.map Value.cells = some (liL lz).toArray ∧ i.size = 5 ∧ i.bytes ≤ 1000 := zero_of (by kernel_rfl)
theorem RmvAt.set {w : World} {B : Nat} {v v' : RM} (h : RmvAt w B v) (i : Nat) (u : Value) (he : (rmA v).setIfInBounds i u = rmA v') : RmvAt (w.setCell ⟨B, i, none⟩ u) B v' := by
  unfold RmvAt at h ⊢
  rw [heap_setCell_same w B i _ _ _ h, he]
def m5 (k : Nat) : LI := ⟨-500 - (k : Int), 0, 0, 0, 0⟩
/-- the blocks that a room may change -/
def RB (base : Nat) (w : World) (q : Nat) : Prop := base ≤ q ∧ ∃ cc ty, w.heap[q]? = some (.cells cc ty (0, 0)) ∧ (ty = 36 ∨ ty = 77)
/-- what stands there: the list, and the marks behind it -/
structure Marks (ls L : List LI) : Prop where
  a : ∀ j, j < ls.length → L[j]? = ls[j]?
  b : ∀ j, ls.length ≤ j → j < L.length → L[j]? = some (m5 j)
  len : ls.length ≤ L.length
/-- the room -/
structure Rm (base : Nat) (w : World) (R : Nat) (va : Option Addr) (vc : Nat) (N : Int) (L : List LI) : Prop where
  at' : RmvAt w R ⟨va, L.length, vc, N⟩
  gl : GL 5 liL 36 w base (.slice va L.length vc) L
  hR : base ≤ R
  big : L.length ≤ 3000000
theorem wpList_makeG3 {α : Type} {K : Nat} {cells : α → List Value} {ops : Array Oper} {rest : List Oper} {o : Oper} {a : Act} {w : World} {Q : Exit → Act → World → Prop} (hcl : ∀ o, (cells o).length = K) (hK : 0 < K) (zero : α) (hg : o.guard = none) (l c : Operand) (t e : TypeId) (ho : o.op = .makeSlice t l c) (ht : Try.prog.underlying t = some (.slice e)) (hinfo : ∃ i, Try.prog.info? e = some i ∧ i.zero.map Value.cells = some (cells zero).toArray ∧ i.size = K ∧ i.bytes ≤ 1000) (base : Nat) (L1 C1 : Int) (n : Nat) (hl : a.eval l = .int .i64 L1) (hc : a.eval c = .int .i64 C1) (hL1 : L1 = (n : Int)) (hC1 : C1 = (n : Int)) (hn : n ≤ 3000000) (hb : base ≤ w.heap.size)
    (h : ∀ w', GL K cells e w' base (.slice (some ⟨w.heap.size, 0, none⟩) n n) (List.replicate n zero) → Below w.heap.size w w' → wpList Try.prog ops Q rest (a.put o.dst (.slice (some ⟨w.heap.size, 0, none⟩) n n)) w') : wpList Try.prog ops Q (o :: rest) a w := by
  obtain ⟨i, hi, hz, hs, hby⟩ := hinfo
  cases hz0 : i.zero with
  | none => rw [hz0] at hz; cases hz
  | some z =>
    rw [hz0, Option.map_some, Option.some.injEq] at hz
    refine wpList_make_full w hg l c t ho base e i z K ht hi hz0 hs .i64 .i64 L1 C1 n hl hc hL1 hC1 (Nat.le_trans (Nat.mul_le_mul hby hn) (by decide)) (by unfold maxLen; omega) hb ?_
    intro w' h1 h2
    refine h w' ?_ ⟨h2.os, h2.tape, h2.output, h2.size, fun k hk => h2.block k hk (by simp)⟩
    have e1 : (madeCells z.cells (n * K)).toList = (List.replicate n zero).flatMap cells := by
      rw [hz]
      apply List.ext_getElem?
      intro j
      by_cases hj : j < n * K
      · have hq : j / K < n := (Nat.div_lt_iff_lt_mul hK).2 hj
        have hm : j % K < K := Nat.mod_lt _ hK
        have e2 := fmc_get K cells hcl (List.replicate n zero) (j / K) zero (by simp [hq]) (j % K) hm
        rw [show j / K * K + j % K = j by rw [Nat.mul_comm]; exact Nat.div_add_mod j K] at e2
        rw [e2]
        have hm' : j % K < (cells zero).length := by rw [hcl]; exact hm
        simp [madeCells, hj, hcl, List.getElem?_eq_getElem hm']
      · rw [List.getElem?_eq_none (by simp [size_madeCells]; omega), List.getElem?_eq_none (by rw [fmc_len K cells hcl]; simp; omega)]
    show w'.ownsRow base e K _ (List.replicate n zero).length _
    rw [List.length_replicate, ← e1]
    exact h1
theorem ch_set (w : World) (g i : Nat) (v : Value) : Ch (fun q => q = g) w (w.setCell ⟨g, i, none⟩ v) := ch_setCells w g [v] i
set_option maxHeartbeats 3200000 in
set_option maxRecDepth 100000 in
theorem lay_any (W0 : World) (base R : Nat) (va : Option Addr) (vc : Nat) (N : Int) (L : List LI) (a : Option Addr) (n cap : Nat) (ls : List LI) (ok : LI → Prop) (w : World) (hl : ls.length = n) (hL : ListG 5 liL ok W0 a ls) (hn : n ≤ 1048576) (hB : Below W0.heap.size W0 w) (hbase : W0.heap.size ≤ base) (hr : Rm base w R va vc N L) : Calls Try.prog 37 #[.pointer (some ⟨R, 0, none⟩), .slice a n cap] w fun e w' => ∃ g c L', e = .returned (.slice (some ⟨g, 0, none⟩) n c) ∧ Rm base w' R (some ⟨g, 0, none⟩) c (n : Int) L' ∧ Marks ls L' ∧ Ch (RB base w) w w' := by
  have HL : Hid (ls.length = n ∧ ListG 5 liL ok W0 a ls ∧ n ≤ 1048576 ∧ Below W0.heap.size W0 w ∧ W0.heap.size ≤ base) := ⟨hl, hL, hn, hB, hbase⟩
  have HRm : Hid (Rm base w R va vc N L) := hr
  have hn' : n ≤ 1048576 := hn
  obtain ⟨m0, hm0⟩ : ∃ m0, L.length = m0 := ⟨_, rfl⟩
  have hm3 : m0 ≤ 3000000 := by rw [← hm0]; exact hr.big
  have H0 : Hid (RmvAt w R ⟨va, m0, vc, N⟩ ∧ GL 5 liL 36 w base (.slice va m0 vc) L ∧ L.length = m0 ∧ base ≤ R) := by rw [← hm0]; exact ⟨hr.at', hr.gl, rfl, hr.hR⟩
  have HLs : ∀ wr, Ch (RB base w) w wr → ListG 5 liL ok wr a ls := fun wr k => (HL.out.2.1).old (HL.out.2.2.2.1.trans (k.below (fun q hq => Nat.le_trans HL.out.2.2.2.2 hq.1) HL.out.2.2.2.1.size))
  clear hl hL hn hB hbase hr hm0
  have w1 : IntKind.i64.wrap (2 * (n : Int)) = 2 * (n : Int) := i64_s _ (by omega) (by omega)
  have w2 : IntKind.i64.wrap (2 * (n : Int) + 9) = 2 * (n : Int) + 9 := i64_s _ (by omega) (by omega)
  have w3 : IntKind.i64.wrap (2 * (n : Int) + 40) = 2 * (n : Int) + 40 := i64_s _ (by omega) (by omega)
  have c0 : w.cell? ⟨R, 0, none⟩ = some (.slice va m0 vc) := H0.out.1.cell 0
  have z0 := H0.out.1.fz 0
  go_enter Try.func37, Try.ntmps37
  by_cases hw : (m0 : Int) < 2 * (n : Int) + 9
  · have q1 : decide ((m0 : Int) < 2 * (n : Int) + 9) = true := decide_eq_true hw
    clear hw
    obtain ⟨m, hm⟩ : ∃ m, m = 2 * n + 40 := ⟨_, rfl⟩
    have HMm : Hid (m = 2 * n + 40 ∧ base ≤ w.heap.size) := ⟨hm, by have h1 := (Array.getElem?_eq_some_iff.1 H0.out.1).1; have h2 := H0.out.2.2.2; omega⟩
    have HM : Hid (2 * n + 9 ≤ m ∧ m ≤ 3000000) := ⟨by omega, by omega⟩
    have hm3' : m ≤ 3000000 := by omega
    obtain ⟨g, hg⟩ : ∃ g, g = w.heap.size := ⟨_, rfl⟩
    have HG : Hid (g = w.heap.size) := hg
    clear hm hg hm3
    go_upto_region 3 with (first | (refine wpList_makeG3 liL_len (by decide) lz rfl (.tmp 20) (.tmp 20) 22 36 rfl Try.underlying22 zero_li base (2 * (n : Int) + 40) (2 * (n : Int) + 40) m rfl rfl (by have h1 := HMm.out.1; omega) (by have h1 := HMm.out.1; omega) HM.out.2 HMm.out.2 ?_; intro wm glm bm; have cm : wm.cell? ⟨R, 0, none⟩ = some (.slice va m0 vc) := (H0.out.1.below bm).cell 0; have zm := (H0.out.1.below bm).fz 0))
    rw [← HG.out] at glm ⊢
    have HQ : Hid (RmvAt (wm.setCell ⟨R, 0, none⟩ (.slice (some ⟨g, 0, none⟩) m m)) R ⟨some ⟨g, 0, none⟩, m, m, N⟩ ∧ Ch (fun q => q = R) wm (wm.setCell ⟨R, 0, none⟩ (.slice (some ⟨g, 0, none⟩) m m))) := ⟨(H0.out.1.below bm).set 0 _ rfl, ch_set _ _ _ _⟩
    obtain ⟨wn, hwn⟩ : ∃ y, wm.setCell ⟨R, 0, none⟩ (.slice (some ⟨g, 0, none⟩) m m) = y := ⟨_, rfl⟩
    rw [hwn] at HQ ⊢
    have HGB : Hid (∀ x, x < w.heap.size → x = g → RB base w x) := fun x hx e => by have h1 := HG.out; omega
    have H : Hid (GL 5 liL 36 wn base (.slice (some ⟨g, 0, none⟩) m m) (List.replicate m lz) ∧ RmvAt wn R ⟨some ⟨g, 0, none⟩, m, m, N⟩ ∧ Ch (RB base w) w wn ∧ (List.replicate m lz).length = m) := by
      refine ⟨glm.ch HQ.out.2 (fun q hq => ?_), HQ.out.1, (Ch.ofBelow (S := RB base w) bm).trans HQ.out.2 (fun x hx e => by subst e; exact ⟨H0.out.2.2.2, _, _, H0.out.1, .inr rfl⟩), List.length_replicate⟩
      simp [Value.ownBlock] at hq
      subst hq
      have h1 := (Array.getElem?_eq_some_iff.1 H0.out.1).1
      have h2 := HG.out
      omega
    clear glm bm cm zm hwn HQ c0 z0
    go_wp2_with fail
    go_loopw [5] (fun iv wr => ∃ (k : Nat) (L : List LI), k ≤ m ∧ iv = .int .i64 (k : Nat) ∧ Hid (GL 5 liL 36 wr base (.slice (some ⟨g, 0, none⟩) m m) L ∧ RmvAt wr R ⟨some ⟨g, 0, none⟩, m, m, N⟩ ∧ Ch (RB base w) w wr ∧ L.length = m ∧ ∀ j, j < k → L[j]? = some (m5 j))) (fun iv _ => m - (intOf iv).toNat)
    case atStart => exact ⟨0, (List.replicate m lz), Nat.zero_le _, rfl, H.out.1, H.out.2.1, H.out.2.2.1, H.out.2.2.2, fun j hj => by omega⟩
    case round =>
      obtain ⟨k, L2, hk, rfl, HI⟩ := hrel
      have c0 : wr.cell? ⟨R, 0, none⟩ = some (.slice (some ⟨g, 0, none⟩) m m) := HI.out.2.1.cell 0
      by_cases hkn : k < m
      · have p1 : decide ((k : Int) < (m : Int)) = true := decide_eq_true (by omega)
        have p2 : decide (k < m) = true := decide_eq_true hkn
        have k0 : (0 : Int) ≤ (k : Int) := by omega
        have k1 : (k : Int) < (m : Int) := by omega
        have k2 : ((k : Int)).toNat = k := by omega
        have wk : IntKind.i64.wrap ((k : Int) + 1) = (k : Int) + 1 := i64_s _ (by omega) (by omega)
        have ws : IntKind.i64.wrap (-500 - (k : Int)) = -500 - (k : Int) := i64_s _ (by omega) (by omega)
        have HKN : Hid (k < m) := hkn
        clear hkn hk
        go_wp2_with (first | (refine wpList_bq1 _ rfl (-500 - (k : Int)) rfl rfl ?_) | (refine wpList_setG liL_len liL_one 36 info_li (.tmp 41) (.tmp 40) rfl rfl base g m m L2 k (k * 5) (m5 k) rfl rfl rfl HI.out.1 HKN.out rfl ?_))
        intro w8 gl8 k8
        have H8 : Hid (GL 5 liL 36 w8 base (.slice (some ⟨g, 0, none⟩) m m) (L2.set k (m5 k)) ∧ RmvAt w8 R ⟨some ⟨g, 0, none⟩, m, m, N⟩ ∧ Ch (RB base w) w w8 ∧ (L2.set k (m5 k)).length = m ∧ ∀ j, j < k + 1 → (L2.set k (m5 k))[j]? = some (m5 j)) := by
          have hne : ¬ R = g := by
            intro e
            obtain ⟨cc, hc⟩ := (HI.out.1.kind g rfl).2.2
            have h2 := HI.out.2.1
            unfold RmvAt at h2
            rw [e, hc] at h2
            simp only [Option.some.injEq, Obj.cells.injEq] at h2
            exact absurd h2.2.1 (by decide)
          refine ⟨gl8, HI.out.2.1.ch k8 hne, HI.out.2.2.1.trans k8 (fun x hx e => HGB.out x hx e), by rw [List.length_set]; exact HI.out.2.2.2.1, fun j hj => ?_⟩
          by_cases e : j = k
          · subst e; rw [List.getElem?_set_self (by have h1 := HI.out.2.2.2.1; have h2 := HKN.out; omega)]
          · rw [List.getElem?_set_ne (by omega)]; exact HI.out.2.2.2.2 j (by omega)
        clear gl8 k8 c0
        go_wp2_with fail
        go_roundw
        case rel => exact ⟨k + 1, L2.set k (m5 k), by have := HKN.out; omega, rfl, H8.out⟩
        case measure => simp only [intOf]; have := HKN.out; omega
      · have p1 : decide ((k : Int) < (m : Int)) = false := decide_eq_false (by omega)
        have p2 : decide (k < m) = false := decide_eq_false hkn
        have HKM : Hid (m ≤ k) := by show _ ≤ _; omega
        clear hkn hk
        go_upto_region 8 with (first | (refine wpList_copyG liL_len liL_one (by decide) rfl (.tmp 45) (.tmp 46) 22 36 rfl Try.underlying22 info_li base g m m L2 (some ⟨g, 0, none⟩) 0 m m rfl a n cap rfl ok ls (by have h1 := HL.out.1; have h2 := HM.out; rw [h1]; exact (Nat.min_eq_left (by omega)).symm) (fun _ => by rw [Nat.zero_mul]) (HLs wr HI.out.2.2.1) HI.out.1 (by have h1 := HL.out.1; have h2 := HM.out; omega) ?_; intro w5 gl5 k5))
        have HG5 : Hid (∃ L3, GL 5 liL 36 w5 base (.slice (some ⟨g, 0, none⟩) m m) L3 ∧ L3.length = m ∧ Marks ls L3 ∧ RmvAt w5 R ⟨some ⟨g, 0, none⟩, m, m, N⟩ ∧ Ch (RB base w) w w5) := by
          have hne : ¬ R = g := by
            intro e
            obtain ⟨cc, hc⟩ := (HI.out.1.kind g rfl).2.2
            have h2 := HI.out.2.1
            unfold RmvAt at h2
            rw [e, hc] at h2
            simp only [Option.some.injEq, Obj.cells.injEq] at h2
            exact absurd h2.2.1 (by decide)
          have hlen := HI.out.2.2.2.1
          have hls := HL.out.1
          have hm := HM.out
          have hkm := HKM.out
          have e3 : L2.take 0 ++ (ls ++ L2.drop (0 + ls.length)) = ls ++ L2.drop ls.length := by rw [List.take_zero, List.nil_append, Nat.zero_add]
          rw [e3] at gl5
          have l3 : (ls ++ L2.drop ls.length).length = m := by rw [List.length_append, List.length_drop]; omega
          refine ⟨ls ++ L2.drop ls.length, gl5, l3, ⟨fun j hj => List.getElem?_append_left hj, fun j h1 h2 => ?_, by omega⟩, HI.out.2.1.ch k5 hne, HI.out.2.2.1.trans k5 (fun x hx e => HGB.out x hx e)⟩
          rw [List.getElem?_append_right h1, List.getElem?_drop, show ls.length + (j - ls.length) = j by omega]
          exact HI.out.2.2.2.2 j (by omega)
        clear gl5 k5 c0
        obtain ⟨L3, hL3⟩ := HG5.out
        have H3 : Hid _ := hL3
        clear hL3 HG5
        have c0 : w5.cell? ⟨R, 1, none⟩ = some (.int .i64 N) := H3.out.2.2.2.1.cell 1
        have z1 := H3.out.2.2.2.1.fz 1
        have HQ : Hid (RmvAt (w5.setCell ⟨R, 1, none⟩ (.int .i64 (n : Int))) R ⟨some ⟨g, 0, none⟩, m, m, (n : Int)⟩ ∧ Ch (fun q => q = R) w5 (w5.setCell ⟨R, 1, none⟩ (.int .i64 (n : Int)))) := ⟨H3.out.2.2.2.1.set 1 _ rfl, ch_set _ _ _ _⟩
        obtain ⟨w6, hw6⟩ : ∃ y, w5.setCell ⟨R, 1, none⟩ (.int .i64 (n : Int)) = y := ⟨_, rfl⟩
        rw [hw6] at HQ
        go_upto_region 9 with fail
        have H6 : Hid (GL 5 liL 36 w6 base (.slice (some ⟨g, 0, none⟩) m m) L3 ∧ L3.length = m ∧ Marks ls L3 ∧ RmvAt w6 R ⟨some ⟨g, 0, none⟩, m, m, (n : Int)⟩ ∧ Ch (RB base w) w w6) := by
          have hne : ¬ g = R := by
            intro e
            obtain ⟨cc, hc⟩ := (H3.out.1.kind g rfl).2.2
            have h2 := H3.out.2.2.2.1
            unfold RmvAt at h2
            rw [← e, hc] at h2
            simp only [Option.some.injEq, Obj.cells.injEq] at h2
            exact absurd h2.2.1 (by decide)
          refine ⟨H3.out.1.ch HQ.out.2 (fun q hq => by simp [Value.ownBlock] at hq; subst hq; exact hne), H3.out.2.1, H3.out.2.2.1, HQ.out.1, H3.out.2.2.2.2.trans HQ.out.2 (fun x hx e => by subst e; exact ⟨H0.out.2.2.2, _, _, H0.out.1, .inr rfl⟩)⟩
        have hcap : m ≤ m := by have h1 := H6.out.1.capm; have h2 := H6.out.2.1; omega
        have HC : Hid (m ≤ m) := hcap
        clear HQ hw6 c0 z1 H3
        have c0 : w6.cell? ⟨R, 0, none⟩ = some (.slice (some ⟨g, 0, none⟩) m m) := H6.out.2.2.2.1.cell 0
        have s1 : (0 : Int) ≤ (n : Int) := by omega
        have s2 : (n : Int) ≤ (m : Int) := by have h1 := HM.out; omega
        have s3 : ((n : Int)).toNat = n := by omega
        clear hcap
        go_wp2_with fail
        go_ret
        exact ⟨g, m, L3, rfl, ⟨by rw [H6.out.2.1]; exact H6.out.2.2.2.1, by rw [H6.out.2.1]; exact H6.out.1, H0.out.2.2.2, by rw [H6.out.2.1]; exact HM.out.2⟩, H6.out.2.2.1, H6.out.2.2.2.2⟩
  · have q1 : decide ((m0 : Int) < 2 * (n : Int) + 9) = false := decide_eq_false hw
    have hml : 2 * n + 9 ≤ m0 := by omega
    have HM : Hid (2 * n + 9 ≤ m0 ∧ m0 ≤ 3000000) := ⟨hml, hm3⟩
    obtain ⟨x0, hx0⟩ : ∃ x, L[0]? = some x := ⟨_, List.getElem?_eq_getElem (by have := H0.out.2.2.1; omega)⟩
    obtain ⟨g, c', hv, hbg, hgl, _⟩ := H0.out.2.1.at liL_len 0 x0 hx0
    simp only [Value.slice.injEq] at hv
    obtain ⟨rfl, hx1, hx2⟩ := hv
    clear hx1 hx2
    have HGB : Hid (∀ x, x < w.heap.size → x = g → RB base w x) := fun x _ e => by
      subst e
      obtain ⟨h1, _, cc, h3⟩ := H0.out.2.1.kind x rfl
      exact ⟨h1, cc, _, h3, .inl rfl⟩
    have H : Hid (GL 5 liL 36 w base (.slice (some ⟨g, 0, none⟩) m0 vc) L ∧ RmvAt w R ⟨some ⟨g, 0, none⟩, m0, vc, N⟩ ∧ Ch (RB base w) w w ∧ L.length = m0) := ⟨H0.out.2.1, H0.out.1, Ch.ofBelow (Below.refl _ _), H0.out.2.2.1⟩
    clear hw hml hx0 hbg hgl
    go_wp2_with fail
    go_loopw [5] (fun iv wr => ∃ (k : Nat) (L : List LI), k ≤ m0 ∧ iv = .int .i64 (k : Nat) ∧ Hid (GL 5 liL 36 wr base (.slice (some ⟨g, 0, none⟩) m0 vc) L ∧ RmvAt wr R ⟨some ⟨g, 0, none⟩, m0, vc, N⟩ ∧ Ch (RB base w) w wr ∧ L.length = m0 ∧ ∀ j, j < k → L[j]? = some (m5 j))) (fun iv _ => m0 - (intOf iv).toNat)
    case atStart => exact ⟨0, L, Nat.zero_le _, rfl, H.out.1, H.out.2.1, H.out.2.2.1, H.out.2.2.2, fun j hj => by omega⟩
    case round =>
      obtain ⟨k, L2, hk, rfl, HI⟩ := hrel
      have c0 : wr.cell? ⟨R, 0, none⟩ = some (.slice (some ⟨g, 0, none⟩) m0 vc) := HI.out.2.1.cell 0
      by_cases hkn : k < m0
      · have p1 : decide ((k : Int) < (m0 : Int)) = true := decide_eq_true (by omega)
        have p2 : decide (k < m0) = true := decide_eq_true hkn
        have k0 : (0 : Int) ≤ (k : Int) := by omega
        have k1 : (k : Int) < (m0 : Int) := by omega
        have k2 : ((k : Int)).toNat = k := by omega
        have wk : IntKind.i64.wrap ((k : Int) + 1) = (k : Int) + 1 := i64_s _ (by omega) (by omega)
        have ws : IntKind.i64.wrap (-500 - (k : Int)) = -500 - (k : Int) := i64_s _ (by omega) (by omega)
        have HKN : Hid (k < m0) := hkn
        clear hkn hk
        go_wp2_with (first | (refine wpList_bq1 _ rfl (-500 - (k : Int)) rfl rfl ?_) | (refine wpList_setG liL_len liL_one 36 info_li (.tmp 41) (.tmp 40) rfl rfl base g m0 vc L2 k (k * 5) (m5 k) rfl rfl rfl HI.out.1 HKN.out rfl ?_))
        intro w8 gl8 k8
        have H8 : Hid (GL 5 liL 36 w8 base (.slice (some ⟨g, 0, none⟩) m0 vc) (L2.set k (m5 k)) ∧ RmvAt w8 R ⟨some ⟨g, 0, none⟩, m0, vc, N⟩ ∧ Ch (RB base w) w w8 ∧ (L2.set k (m5 k)).length = m0 ∧ ∀ j, j < k + 1 → (L2.set k (m5 k))[j]? = some (m5 j)) := by
          have hne : ¬ R = g := by
            intro e
            obtain ⟨cc, hc⟩ := (HI.out.1.kind g rfl).2.2
            have h2 := HI.out.2.1
            unfold RmvAt at h2
            rw [e, hc] at h2
            simp only [Option.some.injEq, Obj.cells.injEq] at h2
            exact absurd h2.2.1 (by decide)
          refine ⟨gl8, HI.out.2.1.ch k8 hne, HI.out.2.2.1.trans k8 (fun x hx e => HGB.out x hx e), by rw [List.length_set]; exact HI.out.2.2.2.1, fun j hj => ?_⟩
          by_cases e : j = k
          · subst e; rw [List.getElem?_set_self (by have h1 := HI.out.2.2.2.1; have h2 := HKN.out; omega)]
          · rw [List.getElem?_set_ne (by omega)]; exact HI.out.2.2.2.2 j (by omega)
        clear gl8 k8 c0
        go_wp2_with fail
        go_roundw
        case rel => exact ⟨k + 1, L2.set k (m5 k), by have := HKN.out; omega, rfl, H8.out⟩
        case measure => simp only [intOf]; have := HKN.out; omega
      · have p1 : decide ((k : Int) < (m0 : Int)) = false := decide_eq_false (by omega)
        have p2 : decide (k < m0) = false := decide_eq_false hkn
        have HKM : Hid (m0 ≤ k) := by show _ ≤ _; omega
        clear hkn hk
        go_upto_region 8 with (first | (refine wpList_copyG liL_len liL_one (by decide) rfl (.tmp 45) (.tmp 46) 22 36 rfl Try.underlying22 info_li base g m0 vc L2 (some ⟨g, 0, none⟩) 0 m0 vc rfl a n cap rfl ok ls (by have h1 := HL.out.1; have h2 := HM.out; rw [h1]; exact (Nat.min_eq_left (by omega)).symm) (fun _ => by rw [Nat.zero_mul]) (HLs wr HI.out.2.2.1) HI.out.1 (by have h1 := HL.out.1; have h2 := HM.out; omega) ?_; intro w5 gl5 k5))
        have HG5 : Hid (∃ L3, GL 5 liL 36 w5 base (.slice (some ⟨g, 0, none⟩) m0 vc) L3 ∧ L3.length = m0 ∧ Marks ls L3 ∧ RmvAt w5 R ⟨some ⟨g, 0, none⟩, m0, vc, N⟩ ∧ Ch (RB base w) w w5) := by
          have hne : ¬ R = g := by
            intro e
            obtain ⟨cc, hc⟩ := (HI.out.1.kind g rfl).2.2
            have h2 := HI.out.2.1
            unfold RmvAt at h2
            rw [e, hc] at h2
            simp only [Option.some.injEq, Obj.cells.injEq] at h2
            exact absurd h2.2.1 (by decide)
          have hlen := HI.out.2.2.2.1
          have hls := HL.out.1
          have hm := HM.out
          have hkm := HKM.out
          have e3 : L2.take 0 ++ (ls ++ L2.drop (0 + ls.length)) = ls ++ L2.drop ls.length := by rw [List.take_zero, List.nil_append, Nat.zero_add]
          rw [e3] at gl5
          have l3 : (ls ++ L2.drop ls.length).length = m0 := by rw [List.length_append, List.length_drop]; omega
          refine ⟨ls ++ L2.drop ls.length, gl5, l3, ⟨fun j hj => List.getElem?_append_left hj, fun j h1 h2 => ?_, by omega⟩, HI.out.2.1.ch k5 hne, HI.out.2.2.1.trans k5 (fun x hx e => HGB.out x hx e)⟩
          rw [List.getElem?_append_right h1, List.getElem?_drop, show ls.length + (j - ls.length) = j by omega]
          exact HI.out.2.2.2.2 j (by omega)
        clear gl5 k5 c0
        obtain ⟨L3, hL3⟩ := HG5.out
        have H3 : Hid _ := hL3
        clear hL3 HG5
        have c0 : w5.cell? ⟨R, 1, none⟩ = some (.int .i64 N) := H3.out.2.2.2.1.cell 1
        have z1 := H3.out.2.2.2.1.fz 1
        have HQ : Hid (RmvAt (w5.setCell ⟨R, 1, none⟩ (.int .i64 (n : Int))) R ⟨some ⟨g, 0, none⟩, m0, vc, (n : Int)⟩ ∧ Ch (fun q => q = R) w5 (w5.setCell ⟨R, 1, none⟩ (.int .i64 (n : Int)))) := ⟨H3.out.2.2.2.1.set 1 _ rfl, ch_set _ _ _ _⟩
        obtain ⟨w6, hw6⟩ : ∃ y, w5.setCell ⟨R, 1, none⟩ (.int .i64 (n : Int)) = y := ⟨_, rfl⟩
        rw [hw6] at HQ
        go_upto_region 9 with fail
        have H6 : Hid (GL 5 liL 36 w6 base (.slice (some ⟨g, 0, none⟩) m0 vc) L3 ∧ L3.length = m0 ∧ Marks ls L3 ∧ RmvAt w6 R ⟨some ⟨g, 0, none⟩, m0, vc, (n : Int)⟩ ∧ Ch (RB base w) w w6) := by
          have hne : ¬ g = R := by
            intro e
            obtain ⟨cc, hc⟩ := (H3.out.1.kind g rfl).2.2
            have h2 := H3.out.2.2.2.1
            unfold RmvAt at h2
            rw [← e, hc] at h2
            simp only [Option.some.injEq, Obj.cells.injEq] at h2
            exact absurd h2.2.1 (by decide)
          refine ⟨H3.out.1.ch HQ.out.2 (fun q hq => by simp [Value.ownBlock] at hq; subst hq; exact hne), H3.out.2.1, H3.out.2.2.1, HQ.out.1, H3.out.2.2.2.2.trans HQ.out.2 (fun x hx e => by subst e; exact ⟨H0.out.2.2.2, _, _, H0.out.1, .inr rfl⟩)⟩
        have hcap : m0 ≤ vc := by have h1 := H6.out.1.capm; have h2 := H6.out.2.1; omega
        have HC : Hid (m0 ≤ vc) := hcap
        clear HQ hw6 c0 z1 H3
        have c0 : w6.cell? ⟨R, 0, none⟩ = some (.slice (some ⟨g, 0, none⟩) m0 vc) := H6.out.2.2.2.1.cell 0
        have s1 : (0 : Int) ≤ (n : Int) := by omega
        have s2 : (n : Int) ≤ (vc : Int) := by have h1 := HM.out; omega
        have s3 : ((n : Int)).toNat = n := by omega
        clear hcap
        go_wp2_with fail
        go_ret
        exact ⟨g, vc, L3, rfl, ⟨by rw [H6.out.2.1]; exact H6.out.2.2.2.1, by rw [H6.out.2.1]; exact H6.out.1, H0.out.2.2.2, by rw [H6.out.2.1]; exact HM.out.2⟩, H6.out.2.2.1, H6.out.2.2.2.2⟩
end Go.Proofs.Ytcdbhkihbfjedaa
