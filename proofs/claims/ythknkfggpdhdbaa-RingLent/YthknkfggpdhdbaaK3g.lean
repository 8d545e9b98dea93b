/-
  Law3a Law3b Law3c Law3d Law3e Law3f Law3g Law3h Law3i, one behind the other.
-/
import Derived.Test.YthknkfggpdhdbaaK3f
import Derived.Test.YthknkfggpdhdbaaK3c
import Derived.Deep.MidRow
namespace Go.Proofs.Ythknkfggpdhdbaa
open Go.RowKit

theorem seg_pre {w : World} {g : Nat} {l m : List Nat} (h : Seg .u8 w (some ⟨g, 0, none⟩) (toI (l ++ m))) : Seg .u8 w (some ⟨g, 0, none⟩) (toI l) := by
  rcases h with h | ⟨b, off, e, hc⟩
  · have : l ++ m = [] := by
      have h1 := congrArg List.length h
      rw [toI_len] at h1
      exact List.eq_nil_of_length_eq_zero h1
    exact .inl (by rw [(List.append_eq_nil_iff.1 this).1]; rfl)
  · refine .inr ⟨b, off, e, fun i hi => ?_⟩
    rw [toI_len] at hi
    rw [hc i (by rw [toI_len, List.length_append]; omega), toI_getD, toI_getD]
    congr 2
    simp [List.getD, List.getElem?_append_left hi]
theorem seg_cell0 {w : World} {g : Nat} {l : List Nat} (h : Seg .u8 w (some ⟨g, 0, none⟩) (toI l)) (j : Nat) (hj : j < l.length) : w.cell? ⟨g, j, none⟩ = some (.int .u8 (l.getD j 0 : Nat)) := by
  rcases h with h | ⟨b, off, e, hc⟩
  · have h1 := congrArg List.length h
    rw [toI_len] at h1
    have h2 : l.length = 0 := h1
    omega
  · have e1 := Option.some.inj e
    obtain ⟨e2, e3, _⟩ := Addr.mk.inj e1
    have := hc j (by rw [toI_len]; exact hj)
    rw [← e2, ← e3, Nat.zero_add, toI_getD] at this
    exact this
theorem i64_mid (x : Int) (h0 : -4611686018427387904 ≤ x) (h1 : x ≤ 4611686018427387904) : IntKind.i64.wrap x = x := by simp [IntKind.wrap, IntKind.bits, IntKind.signed]; omega
set_option maxRecDepth 100000 in
set_option maxHeartbeats 1600000 in
theorem kept_yes (g cp : Nat) (a : Option Addr) (c : Nat) (l : List Nat) (w : World) (hw : Seg .u8 w (some ⟨g, 0, none⟩) (toI (l ++ [91, 92, 93]))) (hb : Seg .u8 w a (toI l)) (h256 : ∀ x ∈ l, x < 256) (hl : l.length ≤ 140737488355000) (hcp : l.length + 3 ≤ cp) :
    Calls Try.prog 64 #[.slice (some ⟨g, 0, none⟩) (l.length + 3) cp, .slice a l.length c] w fun e w' => e = .returned (.bool true) ∧ w = w' := by
  have Q : Hid _ := alike_any (some ⟨g, 0, none⟩) a cp c l l w (seg_pre hw) hb h256 h256
  rw [show decide (l = l) = true from decide_eq_true rfl] at Q
  have c0 := seg_cell0 hw l.length (by simp)
  have c1 := seg_cell0 hw (l.length + 1) (by simp)
  have c2 := seg_cell0 hw (l.length + 2) (by simp)
  have v0 : (l ++ [91, 92, 93]).getD l.length 0 = 91 := by simp [List.getD]
  have v1 : (l ++ [91, 92, 93]).getD (l.length + 1) 0 = 92 := by simp [List.getD]
  have v2 : (l ++ [91, 92, 93]).getD (l.length + 2) 0 = 93 := by simp [List.getD]
  rw [v0] at c0
  rw [v1] at c1
  rw [v2] at c2
  obtain ⟨n, hn⟩ : ∃ n, n = l.length := ⟨_, rfl⟩
  rw [← hn] at Q c0 c1 c2 hl hcp ⊢
  have d0 : w.cell? ⟨g, n, none⟩ = some (.int .u8 91) := c0
  have d1 : w.cell? ⟨g, n + 1, none⟩ = some (.int .u8 92) := c1
  have d2 : w.cell? ⟨g, n + 2, none⟩ = some (.int .u8 93) := c2
  have w3 : IntKind.i64.wrap ((n : Int) + 3) = (n : Int) + 3 := i64_mid _ (by omega) (by omega)
  have w1 : IntKind.i64.wrap ((n : Int) + 1) = (n : Int) + 1 := i64_mid _ (by omega) (by omega)
  have w2 : IntKind.i64.wrap ((n : Int) + 2) = (n : Int) + 2 := i64_mid _ (by omega) (by omega)
  have t1 : ((n : Int) + 1).toNat = n + 1 := by omega
  have t2 : ((n : Int) + 2).toNat = n + 2 := by omega
  have p1 : (0 : Int) ≤ (n : Int) + 1 := by omega
  have p2 : (0 : Int) ≤ (n : Int) + 2 := by omega
  have q0 : (n : Int) < (n : Int) + 3 := by omega
  have q1 : (n : Int) + 1 < (n : Int) + 3 := by omega
  have q2 : (n : Int) + 2 < (n : Int) + 3 := by omega
  have s1 : n ≤ cp := by omega
  have s2 : (n : Int) ≤ (cp : Int) := by omega
  clear hw hb hn v0 v1 v2 c0 c1 c2
  go_enter Try.func64, Try.ntmps64
  go_wp2_with fail
  refine Calls.mono Q.out ?_
  rintro e w' ⟨rfl, rfl⟩
  go_wp2
  go_ret
  exact ⟨rfl, rfl⟩
end Go.Proofs.Ythknkfggpdhdbaa
namespace Go.Proofs.Ythknkfggpdhdbaa
open Go.RowKit

/-- a window that was answered -/
structure WV where
  b : Nat
  n : Nat
  i : Nat
def WV.cells (x : WV) : List Value := [.slice (some ⟨x.b, 0, none⟩) x.n x.n, .int .i64 x.i]
/-- a side's value -/
structure SV where
  P : Nat
  gb : Nat
  gf : Nat
  gr : Nat
  gt : Nat
  s : PS
  r : RV
  wa : Option Addr
  wc : Nat
  W : List WV
def SV.cells (v : SV) : Array Value := #[.pointer (some ⟨v.P, 0, none⟩), .int .i64 v.r.rx, .int .i64 v.r.tx, .int .i64 v.r.size, .slice v.r.al v.r.L.length v.r.cl, .int .i64 v.r.now, .slice v.wa v.W.length v.wc]
/-- the port's blocks -/
abbrev SV.pb (v : SV) : Nat → Prop := PB v.P v.gb v.gf v.gr v.gt v.s
/-- the windows' list's block -/
def SV.wb (v : SV) (q : Nat) : Prop := (Value.slice v.wa v.W.length v.wc).ownBlock = some q
/-- what a step may write into -/
def SV.wr (v : SV) (q : Nat) : Prop := v.pb q ∨ v.wb q
/-- the document's blocks -/
def SV.db (v : SV) (q : Nat) : Prop := (∃ a, v.r.al = some a ∧ a.block = q) ∨ v.r.dblk q
/-- all blocks -/
def SV.all (v : SV) (q : Nat) : Prop := v.wr q ∨ v.db q
structure SideOk (B : Nat) (w : World) (v : SV) : Prop where
  port : PortAt w v.P v.gb v.gf v.gr v.gt v.s
  inv : PInv v.s
  twin : TwinR v.s v.r
  ref : RV.ok w v.r
  alr : ∀ a, v.r.al = some a → a.block < w.heap.size
  own : w.ownsRow B 117 2 (.slice v.wa v.W.length v.wc) v.W.length (v.W.flatMap WV.cells)
  wins : ∀ x ∈ v.W, x.i < v.s.pool ∧ v.s.bb x.i = some x.b ∧ x.n ≤ v.s.size
  old : ∀ q, v.all q → B ≤ q
  dw : ∀ q, v.wb q → ¬ v.pb q
  dd : ∀ q, v.db q → ¬ v.wr q
theorem pb_lt {w : World} {P gb gf gr gt : Nat} {s : PS} (h : PortAt w P gb gf gr gt s) (q : Nat) (hq : PB P gb gf gr gt s q) : q < w.heap.size := by
  obtain ⟨f1, S1, l1⟩ := h.lf
  obtain ⟨f2, S2, l2⟩ := h.lr
  obtain ⟨f3, S3, l3⟩ := h.lt
  have hpos := h.p1
  rcases hq with rfl | rfl | rfl | rfl | rfl | ⟨i, hi, hb⟩
  · exact World.block_lt_of_cell? w ⟨_, 0, none⟩ h.cB
  · exact World.block_lt_of_cell? w ⟨_, 0 * 3, none⟩ (h.b0 0 (by omega))
  · exact (l1.row.lt _ rfl).2
  · exact (l2.row.lt _ rfl).2
  · exact (l3.row.lt _ rfl).2
  · exact ((h.row i q hi hb).lt q rfl).2
variable {B : Nat} {w w' : World} {v : SV}
theorem SideOk.lt (h : SideOk B w v) (q : Nat) (hq : v.all q) : q < w.heap.size := by
  rcases hq with (hq | hq) | ⟨a, ha, rfl⟩ | hq
  · exact pb_lt h.port q hq
  · exact (h.own.lt q hq).2
  · exact h.alr a ha
  · exact h.ref.dlt q hq
/-- blocks that are none of its own were changed -/
theorem SideOk.ch {T : Nat → Prop} (h : SideOk B w v) (k : Ch T w w') (hT : ∀ q, v.all q → ¬ T q) : SideOk B w' v :=
  ⟨h.port.ch k (fun q hq => hT q (.inl (.inl hq))), h.inv, h.twin, h.ref.ch k (fun a ha => hT a.block (.inr (.inl ⟨a, ha, rfl⟩))) (fun q hq => hT q (.inr (.inr hq))), fun a ha => Nat.lt_of_lt_of_le (h.alr a ha) k.size, k.owns h.own (fun g hg => hT g (.inl (.inr hg))), h.wins, h.old, h.dw, h.dd⟩
theorem SideOk.below (h : SideOk B w v) (k : Below w.heap.size w w') : SideOk B w' v := h.ch (Ch.ofBelow (S := fun _ => False) k) (fun _ _ => id)
/-- behind a call of the port's and the document's answer to it -/
theorem SideOk.next {w1 w2 : World} (h : SideOk B w v) {s1 : PS} {r2 : RV} (hp : Played w w1 v.P v.gb v.gf v.gr v.gt v.s s1) (hb : Below w1.heap.size w1 w2) (hbb : ∀ i b, i < v.s.pool → v.s.bb i = some b → s1.bb i = some b)
    (ht : TwinR s1 r2) (hr : RV.ok w2 r2) (hal : ∀ a, r2.al = some a → a.block < w2.heap.size) (hal2 : r2.al = v.r.al ∨ ∀ a, r2.al = some a → w1.heap.size ≤ a.block) (hd : ∀ q, r2.dblk q → v.r.dblk q ∨ w1.heap.size ≤ q) :
    SideOk B w2 { v with s := s1, r := r2 } ∧ Ch v.wr w w2 ∧ ∀ q, SV.all { v with s := s1, r := r2 } q → v.all q ∨ w.heap.size ≤ q := by
  have hs := hp.ch.size
  have hlt := h.lt
  have pnew : ∀ q, PB v.P v.gb v.gf v.gr v.gt s1 q → v.pb q ∨ w.heap.size ≤ q := hp.blk
  have dnew : ∀ q, SV.db { v with s := s1, r := r2 } q → v.db q ∨ w1.heap.size ≤ q := by
    rintro q (⟨a, ha, rfl⟩ | hq)
    · rcases hal2 with e | e
      · exact .inl (.inl ⟨a, by rw [← e]; exact ha, rfl⟩)
      · exact .inr (e a ha)
    · exact (hd q hq).imp (fun h => .inr h) id
  have anew : ∀ q, SV.all { v with s := s1, r := r2 } q → v.all q ∨ w.heap.size ≤ q := by
    rintro q ((hq | hq) | hq)
    · exact (pnew q hq).imp (fun h => .inl (.inl h)) id
    · exact .inl (.inl (.inr hq))
    · exact (dnew q hq).imp (fun h => .inr h) (fun h => by omega)
  have hB : B ≤ w.heap.size := Nat.le_trans (h.old v.P (.inl (.inl (.inl rfl)))) (Nat.le_of_lt (hlt v.P (.inl (.inl (.inl rfl)))))
  have hpl := pb_lt hp.port
  refine ⟨⟨hp.port.below hb, hp.inv, ht, hr, hal, ?_, ?_, ?_, ?_, ?_⟩, (hp.ch.mono (fun x _ e => .inl e)).trans (Ch.ofBelow (S := v.wr) hb) (fun _ _ e => e), anew⟩
  · exact (Ch.ofBelow (S := fun _ => False) hb).owns (hp.ch.owns h.own (fun g hg => h.dw g hg)) (fun _ _ => id)
  · intro x hx
    obtain ⟨h1, h2, h3⟩ := h.wins x hx
    exact ⟨by show x.i < s1.pool; rw [hp.pool]; exact h1, hbb _ _ h1 h2, by show x.n ≤ s1.size; rw [hp.size]; exact h3⟩
  · intro q hq
    rcases anew q hq with h1 | h1
    · exact h.old q h1
    · omega
  · intro q hq hq2
    have h1 : v.wb q := hq
    rcases pnew q hq2 with h2 | h2
    · exact h.dw q h1 h2
    · have := hlt q (.inl (.inr h1)); omega
  · intro q hq hq2
    rcases dnew q hq with h1 | h1
    · have hql := hlt q (.inr h1)
      rcases hq2 with h2 | h2
      · rcases pnew q h2 with h3 | h3
        · exact h.dd q h1 (.inl h3)
        · omega
      · exact h.dd q h1 (.inr h2)
    · rcases hq2 with h2 | h2
      · have := hpl q h2; omega
      · have h3 : v.wb q := h2
        have := hlt q (.inl (.inr h3)); omega
end Go.Proofs.Ythknkfggpdhdbaa
namespace Go.Proofs.Ythknkfggpdhdbaa
open Go.RowKit

theorem Try.sizeSide : (Try.prog.info? 29).map (·.size) = some 7 := by kernel_rfl
/-- it lies in a block of its own -/
def SdAt (w : World) (O : Nat) (v : SV) : Prop := w.heap[O]? = some (.cells v.cells 29 (0, 0))
variable {w w' : World} {O : Nat} {v : SV}
theorem SdAt.lt (h : SdAt w O v) : O < w.heap.size := (Array.getElem?_eq_some_iff.1 h).1
theorem SdAt.ch {S : Nat → Prop} (h : SdAt w O v) (k : Ch S w w') (hS : ¬ S O) : SdAt w' O v := (k.block O h.lt hS).trans h
theorem SdAt.below (h : SdAt w O v) (k : Below w.heap.size w w') : SdAt w' O v := (k.block O h.lt).trans h
theorem SdAt.c0 (h : SdAt w O v) : w.cell? ⟨O, 0, none⟩ = some (.pointer (some ⟨v.P, 0, none⟩)) := by unfold SdAt at h; simp [World.cell?, h, SV.cells]
theorem SdAt.c3 (h : SdAt w O v) : w.cell? ⟨O, 3, none⟩ = some (.int .i64 v.r.size) := by unfold SdAt at h; simp [World.cell?, h, SV.cells]
theorem SdAt.c6 (h : SdAt w O v) : w.cell? ⟨O, 6, none⟩ = some (.slice v.wa v.W.length v.wc) := by unfold SdAt at h; simp [World.cell?, h, SV.cells]
theorem SdAt.fz (h : SdAt w O v) (j : Nat) : w.frozen? ⟨O, j, none⟩ = false := by unfold SdAt at h; simp [World.frozen?, h]
theorem sdAt_new (w : World) (v : SV) : SdAt (w.alloc (.cells v.cells 29)) w.heap.size v := heap_alloc_new _ _
theorem SdAt.range (h : SdAt w O v) : w.rangeAt O 1 v.r.cells.toList := by
  unfold SdAt at h
  intro j u hu
  have hj : j < 5 := by
    have := (List.getElem?_eq_some_iff.1 hu).1
    simpa [RV.cells, rpCells] using this
  rcases (show j = 0 ∨ j = 1 ∨ j = 2 ∨ j = 3 ∨ j = 4 by omega) with rfl | rfl | rfl | rfl | rfl <;> simpa [World.cell?, h, SV.cells, RV.cells, rpCells] using hu
theorem SdAt.there (h : SdAt w O v) : w.there O 1 5 := fun j hj => by
  refine ⟨?_, h.fz _⟩
  unfold SdAt at h
  rcases (show j = 0 ∨ j = 1 ∨ j = 2 ∨ j = 3 ∨ j = 4 by omega) with rfl | rfl | rfl | rfl | rfl <;> simp [World.cell?, h, SV.cells]
theorem wpList_load_sd {ops : Array Oper} {rest : List Oper} {o : Oper} {a : Act} {w : World} {Q : Exit → Act → World → Prop} (x : Operand) (ho : o.op = .load 29 x) (O : Nat) (v : SV) (hx : a.eval x = .pointer (some ⟨O, 0, none⟩)) (hb : SdAt w O v)
    (hw : Region.wanted o (yielded ops a.tmps) = true) (h : wpList Try.prog ops Q rest (a.put o.dst (.agg v.cells)) w) : wpList Try.prog ops Q (o :: rest) a w := by
  refine wpList_step fun K hK => ?_
  rw [if_pos hw]
  exact wp_load_row 29 x ho O hx _ _ _ _ hb Try.underlying29 rfl Try.sizeSide (hK _ _ h)
theorem yields_sd {ops : Array Oper} {o : Oper} {a : Act} {S : World → Prop} (x : Operand) (ho : o.op = .load 29 x) (O : Nat) (v : SV) (hx : a.eval x = .pointer (some ⟨O, 0, none⟩)) (hw : Region.wanted o (yielded ops a.tmps) = true) (hS : ∀ w, S w → SdAt w O v) : YieldsIf Try.prog ops S o (.agg v.cells) a := by
  refine .inl ⟨hw, fun w hb => ?_⟩
  unfold execOp
  simp only [ho, hx, Instr.loadAt, Instr.sureAddr, Sem.run_bind, Sem.run_pure, Result.andThen_ok, run_loadVar_row w O _ 29 v.cells _ _ (hS w hb) Try.underlying29 rfl Try.sizeSide]
theorem wpList_store_sd {ops : Array Oper} {rest : List Oper} {o : Oper} {a : Act} {w : World} {Q : Exit → Act → World → Prop} (x y : Operand) (ho : o.op = .store 29 x y) (hd : o.dst = none) (O : Nat) (C : Array Value) (hC : C.size = 7) (v : SV) (hx : a.eval x = .pointer (some ⟨O, 0, none⟩)) (hy : a.eval y = .agg v.cells) (hb : w.heap[O]? = some (.cells C 29 (0, 0)))
    (hw : Region.wanted o (yielded ops a.tmps) = true) (h : ∀ w', SdAt w' O v → Ch (fun q => q = O) w w' → wpList Try.prog ops Q rest a w') : wpList Try.prog ops Q (o :: rest) a w := by
  refine wpList_step fun K hK => ?_
  rw [if_pos hw]
  refine wp_store_row 29 x y ho O v.cells hx hy _ C hb Try.sizeSide (by rw [hC]; rfl) (by simp [SV.cells, Value.oneCell']) (hK _ _ ?_)
  rw [hd]
  refine h _ (setRow_heap w O C v.cells _ _ hb) ⟨rfl, rfl, rfl, ?_, ?_⟩
  · simp [World.setRow]
  · intro k hk hne
    simp only [World.setRow]
    rw [Array.getElem?_modify, if_neg (fun e => hne e.symm)]
theorem wpList_load_sr {ops : Array Oper} {rest : List Oper} {o : Oper} {a : Act} {w : World} {Q : Exit → Act → World → Prop} (x : Operand) (ho : o.op = .load 26 x) (O : Nat) (v : SV) (hx : a.eval x = .pointer (some ⟨O, 1, none⟩)) (hb : SdAt w O v)
    (hw : Region.wanted o (yielded ops a.tmps) = true) (h : wpList Try.prog ops Q rest (a.put o.dst (.agg v.r.cells)) w) : wpList Try.prog ops Q (o :: rest) a w := by
  refine wpList_step fun K hK => ?_
  rw [if_pos hw]
  exact wp_load_mid 26 x ho O 1 hx v.r.cells.toList _ hb.range Try.underlying26 rfl Try.sizePortR (hK _ _ h)
theorem yields_sr {ops : Array Oper} {o : Oper} {a : Act} {S : World → Prop} (x : Operand) (ho : o.op = .load 26 x) (O : Nat) (v : SV) (hx : a.eval x = .pointer (some ⟨O, 1, none⟩)) (hw : Region.wanted o (yielded ops a.tmps) = true) (hS : ∀ w, S w → SdAt w O v) : YieldsIf Try.prog ops S o (.agg v.r.cells) a :=
  yieldsIf_load_mid hw 26 x ho O 1 hx v.r.cells.toList _ (fun w h => (hS w h).range) Try.underlying26 rfl Try.sizePortR
theorem ch_setCells (O : Nat) : ∀ (vs : List Value) (o : Nat) (w0 w : World), Ch (fun q => q = O) w0 w → Ch (fun q => q = O) w0 (w.setCells O o vs)
  | [], _, _, _, h => h
  | u :: r, o, w0, w, h => by
    rw [World.setCells]
    exact ch_setCells O r (o + 1) w0 _ (Ch.set h ⟨O, o, none⟩ u rfl)
/-- the document's port is another -/
theorem SdAt.setR (h : SdAt w O v) (r' : RV) : SdAt (w.setCells O 1 r'.cells.toList) O { v with r := r' } ∧ Ch (fun q => q = O) w (w.setCells O 1 r'.cells.toList) := by
  refine ⟨?_, ch_setCells O _ 1 w w (Ch.refl _ w)⟩
  unfold SdAt at h ⊢
  simp only [RV.cells, rpCells, World.setCells]
  rw [setCell_eq_setRow w O 1 _ _ _ _ h]
  have h1 := setRow_heap w O _ (v.cells.setIfInBounds 1 (.int .i64 r'.rx)) _ _ h
  rw [setCell_eq_setRow _ O 2 _ _ _ _ h1, setRow_setRow]
  have h2 := setRow_heap w O _ ((v.cells.setIfInBounds 1 (.int .i64 r'.rx)).setIfInBounds (1 + 1) (.int .i64 r'.tx)) _ _ h
  rw [setCell_eq_setRow _ O 3 _ _ _ _ h2, setRow_setRow]
  have h3 := setRow_heap w O _ (((v.cells.setIfInBounds 1 (.int .i64 r'.rx)).setIfInBounds (1 + 1) (.int .i64 r'.tx)).setIfInBounds (1 + 1 + 1) (.int .i64 r'.size)) _ _ h
  rw [setCell_eq_setRow _ O 4 _ _ _ _ h3, setRow_setRow]
  have h4 := setRow_heap w O _ ((((v.cells.setIfInBounds 1 (.int .i64 r'.rx)).setIfInBounds (1 + 1) (.int .i64 r'.tx)).setIfInBounds (1 + 1 + 1) (.int .i64 r'.size)).setIfInBounds (1 + 1 + 1 + 1) (.slice r'.al r'.L.length r'.cl)) _ _ h
  rw [setCell_eq_setRow _ O 5 _ _ _ _ h4, setRow_setRow]
  exact setRow_heap w O _ _ _ _ h
theorem wpList_store_sr {ops : Array Oper} {rest : List Oper} {o : Oper} {a : Act} {w : World} {Q : Exit → Act → World → Prop} (x y : Operand) (ho : o.op = .store 26 x y) (hd : o.dst = none) (O : Nat) (v : SV) (r' : RV) (hx : a.eval x = .pointer (some ⟨O, 1, none⟩)) (hy : a.eval y = .agg r'.cells) (hb : SdAt w O v)
    (hw : Region.wanted o (yielded ops a.tmps) = true) (h : ∀ w', SdAt w' O { v with r := r' } → Ch (fun q => q = O) w w' → wpList Try.prog ops Q rest a w') : wpList Try.prog ops Q (o :: rest) a w := by
  refine wpList_step fun K hK => ?_
  rw [if_pos hw]
  refine wp_store_mid 26 x y ho O 1 r'.cells hx hy hb.there Try.sizePortR (by simp [RV.cells, rpCells, Value.oneCell']) (hK _ _ ?_)
  rw [hd]
  exact h _ (hb.setR r').1 (hb.setR r').2
/-- the windows are others -/
theorem SdAt.setW (h : SdAt w O v) (wa : Option Addr) (wc : Nat) (W : List WV) : SdAt (w.setCell ⟨O, 6, none⟩ (.slice wa W.length wc)) O { v with wa := wa, wc := wc, W := W } ∧ Ch (fun q => q = O) w (w.setCell ⟨O, 6, none⟩ (.slice wa W.length wc)) := by
  refine ⟨?_, (Ch.refl _ w).set _ _ rfl⟩
  unfold SdAt at h ⊢
  rw [setCell_eq_setRow w O 6 _ _ _ _ h]
  exact setRow_heap w O _ _ _ _ h
theorem results_sd_tmp {fn : Func} {p u : Tmp} (h : fn.results = #[.cell p 29, .tmp u]) (tmps : Array Value) (w : World) (O : Nat) (v : SV) (hp : tmps.getD p undef = .pointer (some ⟨O, 0, none⟩)) (hb : SdAt w O v) :
    (results fn tmps).run Try.prog w = .ok (.tuple #[.agg v.cells, tmps.getD u undef]) w := by
  rw [results_cell_tmp h tmps Try.prog w, hp]
  simp [asAddr, run_loadVar_row w O _ 29 v.cells _ _ hb Try.underlying29 rfl Try.sizeSide, Result.andThen]
end Go.Proofs.Ythknkfggpdhdbaa
namespace Go.Proofs.Ythknkfggpdhdbaa
open Go.RowKit

set_option maxRecDepth 100000 in
set_option maxHeartbeats 1600000 in
theorem right_any (w : World) (v : SV) (ref : RV.ok w v.r) (i n b : Nat) (d : List Nat) (hi : i < v.r.L.length) (hn : n ≤ 65535) (hdn : d.length = n) (hs : Seg .u8 w (some ⟨b, 0, none⟩) (toI d)) (hd : d = bp v.r.L[i].d n) (h256 : ∀ x ∈ d, x < 256) :
    Calls Try.prog 66 #[.agg v.cells, .slice (some ⟨b, 0, none⟩) n n, .int .i64 i, .int .i64 n] w fun e w' => e = .returned (.bool true) ∧ Below w.heap.size w w' := by
  obtain ⟨i0, hii, hz0, hz1, hz2⟩ := info_parts Try.infoByte
  obtain ⟨W, hW⟩ : ∃ W, W = w.alloc (.cells v.cells 29) := ⟨_, rfl⟩
  obtain ⟨O, hO⟩ : ∃ O, O = w.heap.size := ⟨_, rfl⟩
  have hb0 : Below w.heap.size w W := by rw [hW]; exact (Below.refl _ _).alloc (Nat.le_refl _) _
  have hbox : SdAt W O v := by rw [hW, hO]; exact sdAt_new w v
  have HW : Hid (w.alloc (.cells v.cells 29) = W) := hW.symm
  have HO : Hid (w.heap.size = O) := hO.symm
  have HI : Hid (∃ hi : i < v.r.L.length, d = bp (v.r.L[i]'hi).d n) := ⟨hi, hd⟩
  have HDN : Hid (d.length = n) := hdn
  have HREF : Hid _ := ref
  have HS : Hid (Seg .u8 w (some ⟨b, 0, none⟩) (toI d)) := hs
  have hbA : Below W.heap.size W (W.alloc (.cells #[.int .u8 81, .int .u8 82, .int .u8 83] 5)) := (Below.refl _ _).alloc (Nat.le_refl _) _
  have HSA : Hid (Seg .u8 (W.alloc (.cells #[.int .u8 81, .int .u8 82, .int .u8 83] 5)) (some ⟨b, 0, none⟩) (toI d)) := (hs.old hb0).old hbA
  have w3 : IntKind.i64.wrap ((n : Int) + 3) = (n : Int) + 3 := i64_mid _ (by omega) (by omega)
  clear hW hO hi hd hdn ref hs
  go_enter Try.func66, Try.ntmps66
  go_upto_region 1 with fail
  rw [HW.out, HO.out]
  go_wp2_with (first | (at_builtin; refine wpList_append_full rfl (.tmp 10) (.tmp 11) 43 rfl 5 i0 (.int .u8 0) 1 Try.underlying43 hii hz0 hz1 hz2 rfl .u8 ⟨b, 0, none⟩ n (toI d) rfl (by rw [toI_len]; exact HDN.out) HSA.out ⟨W.heap.size, 0, none⟩ 3 3 [.int .u8 81, .int .u8 82, .int .u8 83] rfl rfl (news3 _ _ _ _ _) (by decide) (by unfold maxLen; omega) (by omega) ?_))
  intro v1 w1 ho1 hg1
  obtain ⟨a1, c1, rfl⟩ := owns_shape ho1
  have hb1 : Below W.heap.size W w1 := hbA.grown hg1 hbA.size (by intro k hk; cases hk)
  have hb1' : Below w.heap.size w w1 := hb0.trans (hb1.mono hb0.size)
  have hbox1 := hbox.below hb1
  have Q1 : Hid _ := bytesR_any w1 v.r (HREF.out.old hb1') i HI.out.1 n hn
  rw [← HI.out.2] at Q1
  obtain ⟨n3, hn3⟩ : ∃ n3, n3 = n + 3 := ⟨_, rfl⟩
  rw [← hn3]
  have e3 : ((n3 : Nat) : Int) = (n : Int) + 3 := by omega
  have HB1 : Hid _ := hb1'
  clear ho1 hg1 hb1 hb1' hbA HSA hbox hn3
  go_wp2_with (first | (refine wpList_load_sr (.tmp 26) rfl O v rfl hbox1 rfl ?_))
  refine Calls.mono Q1.out ?_
  rintro e w2 ⟨v2, rfl, ho2, hq2⟩
  obtain ⟨a2, c2, rfl, hs2, hl2, _⟩ := owns_seg ho2
  have hb2 : Below w.heap.size w w2 := HB1.out.trans (hq2.mono HB1.out.size)
  have Q2 : Hid _ := alike_any (some ⟨b, 0, none⟩) a2 n c2 d d w2 (HS.out.old hb2) hs2 h256 h256
  rw [decide_eq_true rfl, HDN.out] at Q2
  have HB2 : Hid _ := hb2
  clear Q1 ho2 hs2 hl2 hq2 hb2 hbox1
  go_wp2_with fail
  refine Calls.mono Q2.out ?_
  rintro e w4 ⟨rfl, rfl⟩
  go_wp2
  go_ret
  exact ⟨rfl, HB2.out⟩
theorem one_num (m k : Int) (hk : 0 < k) : 0 ≤ (if Int.tmod m k < 0 then Int.tmod m k + k else Int.tmod m k) ∧ (if Int.tmod m k < 0 then Int.tmod m k + k else Int.tmod m k) < k := by
  have h1 := Int.tmod_lt_of_pos m hk
  have h2 : -k < Int.tmod m k := by
    have := Int.tmod_lt_of_pos (-m) hk
    rw [Int.neg_tmod] at this
    omega
  split <;> omega
set_option maxRecDepth 100000 in
set_option maxHeartbeats 800000 in
theorem one_any (w : World) (v : SV) (m : Int) (hW : 0 < v.W.length) (hW2 : v.W.length ≤ 4611686018427387904) :
    Calls Try.prog 73 #[.agg v.cells, .int .i64 m] w fun e w' => ∃ k : Nat, k < v.W.length ∧ e = .returned (.int .i64 k) ∧ Below w.heap.size w w' := by
  obtain ⟨W, hWW⟩ : ∃ W, W = w.alloc (.cells v.cells 29) := ⟨_, rfl⟩
  obtain ⟨O, hO⟩ : ∃ O, O = w.heap.size := ⟨_, rfl⟩
  have hb0 : Below w.heap.size w W := by rw [hWW]; exact (Below.refl _ _).alloc (Nat.le_refl _) _
  have hbox : SdAt W O v := by rw [hWW, hO]; exact sdAt_new w v
  have HW : Hid (w.alloc (.cells v.cells 29) = W) := hWW.symm
  have HO : Hid (w.heap.size = O) := hO.symm
  have HB0 : Hid _ := hb0
  have c6 := hbox.c6
  obtain ⟨N, hN⟩ : ∃ N, N = v.W.length := ⟨_, rfl⟩
  rw [← hN] at c6 hW hW2 ⊢
  have hz : ((N : Int) == 0) = false := by simp; omega
  have hn0 : ¬ ((N : Int) = 0) := by omega
  have hr := one_num m N (by omega)
  have hw : IntKind.i64.wrap (Int.tmod m N) = Int.tmod m N := i64_mid _ (by split at hr <;> omega) (by split at hr <;> omega)
  have HR : Hid _ := hr
  clear hWW hO hb0 hbox hN hr
  by_cases h0 : Int.tmod m N < 0
  · have hr := HR.out
    rw [if_pos h0] at hr
    have HW3 : Hid (IntKind.i64.wrap (Int.tmod m N + (N : Int)) = Int.tmod m N + (N : Int)) := i64_mid _ (by omega) (by omega)
    have HR2 : Hid _ := hr
    clear hr
    go_enter Try.func73, Try.ntmps73
    go_upto_region 1 with fail
    rw [HW.out, HO.out]
    go_wp2
    go_ret
    have hr := HR2.out
    refine ⟨(Int.tmod m N + (N : Int)).toNat, by omega, ?_, HB0.out⟩
    have e : (((Int.tmod m N + (N : Int)).toNat : Nat) : Int) = Int.tmod m N + (N : Int) := by omega
    rw [e]
    refine congrArg (fun z => Ending.returned (Value.int .i64 z)) ?_
    unfold wrap64
    omega
  · have hr := HR.out
    rw [if_neg h0] at hr
    have HR2 : Hid _ := hr
    clear hr
    go_enter Try.func73, Try.ntmps73
    go_upto_region 1 with fail
    rw [HW.out, HO.out]
    go_wp2
    go_ret
    have hr := HR2.out
    refine ⟨(Int.tmod m N).toNat, by omega, ?_, HB0.out⟩
    have e : (((Int.tmod m N).toNat : Nat) : Int) = Int.tmod m N := by omega
    rw [e]
    first | rfl | exact congrArg (fun z => Ending.returned (Value.int .i64 z)) hw
end Go.Proofs.Ythknkfggpdhdbaa
namespace Go.Proofs.Ythknkfggpdhdbaa
open Go.RowKit

/-- from the call's beginning on: its side lies beside its own boxes -/
structure Loc (B F : Nat) (w x : World) (v v' : SV) : Prop where
  ok : SideOk B x v'
  ch : Ch v.wr w x
  new : ∀ q, v'.all q → v.all q ∨ F ≤ q
  old : ∀ q, v.all q → q < w.heap.size
  hF : w.heap.size ≤ F
variable {B F : Nat} {w x x' : World} {v v' : SV}
theorem Loc.start (h : SideOk B w v) (hb : Below w.heap.size w x) : Loc B x.heap.size w x v v :=
  ⟨h.below hb, Ch.ofBelow hb, fun _ h => .inl h, h.lt, hb.size⟩
theorem Loc.below (h : Loc B F w x v v') (hb : Below x.heap.size x x') : Loc B F w x' v v' :=
  ⟨h.ok.below hb, h.ch.trans (Ch.ofBelow (S := v.wr) hb) (fun _ _ e => e), h.new, h.old, h.hF⟩
/-- one of the call's boxes is written -/
theorem Loc.set {X : Nat} (h : Loc B F w x v v') (h1 : w.heap.size ≤ X) (h2 : X < F) (k : Ch (fun q => q = X) x x') : Loc B F w x' v v' :=
  ⟨h.ok.ch k (fun q hq e => by
    have e' : q = X := e
    rcases h.new q hq with h3 | h3
    · have := h.old q h3; omega
    · omega), h.ch.trans k (fun q hq e => by have e' : q = X := e; omega), h.new, h.old, h.hF⟩
/-- a box that was made just now is written -/
theorem Loc.put {X : Nat} (h : Loc B F w x v v') (o : Obj) (hX : X = x.heap.size) (k : Ch (fun q => q = X) (x.alloc o) x') : Loc B F w x' v v' := by
  have h0 : Below x.heap.size x (x.alloc o) := (Below.refl _ _).alloc (Nat.le_refl _) _
  have h1 := h.below h0
  exact ⟨h1.ok.ch k (fun q hq e => by
    have e' : q = X := e
    have := h.ok.lt q hq
    omega), h1.ch.trans k (fun q hq e => by have e' : q = X := e; have := h.ch.size; omega), h.new, h.old, h.hF⟩
/-- a call of the port's, and the document's answer -/
theorem Loc.next (h : Loc B F w x v v) (hx : F ≤ x.heap.size) {w1 w2 : World} {s1 : PS} {r2 : RV} (hp : Played x w1 v.P v.gb v.gf v.gr v.gt v.s s1) (hb : Below w1.heap.size w1 w2) (hbb : ∀ i b, i < v.s.pool → v.s.bb i = some b → s1.bb i = some b)
    (ht : TwinR s1 r2) (hr : RV.ok w2 r2) (hal : ∀ a, r2.al = some a → a.block < w2.heap.size) (hal2 : r2.al = v.r.al ∨ ∀ a, r2.al = some a → w1.heap.size ≤ a.block) (hd : ∀ q, r2.dblk q → v.r.dblk q ∨ w1.heap.size ≤ q) :
    Loc B F w w2 v { v with s := s1, r := r2 } := by
  obtain ⟨h1, h2, h3⟩ := h.ok.next hp hb hbb ht hr hal hal2 hd
  exact ⟨h1, h.ch.trans h2 (fun _ _ e => e), fun q hq => (h3 q hq).imp id (fun e => by omega), h.old, h.hF⟩
/-- what a step leaves -/
structure Stepped (B : Nat) (w x : World) (v v' : SV) : Prop where
  ok : SideOk B x v'
  ch : Ch v.wr w x
  new : ∀ q, v'.all q → v.all q ∨ w.heap.size ≤ q
  now : v'.r.now ≤ v.r.now + 8192
  win : v'.W.length ≤ v.W.length + 1
theorem Loc.fin (h : Loc B F w x v v') (h1 : v'.r.now ≤ v.r.now + 8192) (h2 : v'.W.length ≤ v.W.length + 1) : Stepped B w x v v' :=
  ⟨h.ok, h.ch, fun q hq => (h.new q hq).imp id (fun e => by have := h.hF; omega), h1, h2⟩
theorem Stepped.trans {w2 : World} {v2 : SV} (hb : Below w.heap.size w x) (k : Stepped B x w2 v v2) : Stepped B w w2 v v2 :=
  ⟨k.ok, (Ch.ofBelow (S := v.wr) hb).trans k.ch (fun _ _ e => e), fun q hq => (k.new q hq).imp id (fun e => by have := hb.size; omega), k.now, k.win⟩
theorem yields_ptr {ops : Array Oper} {o : Oper} {a : Act} {S : World → Prop} (x : Operand) (ho : o.op = .load 23 x) (b off : Nat) (u : Value) (hx : a.eval x = .pointer (some ⟨b, off, none⟩)) (hw : Region.wanted o (yielded ops a.tmps) = true) (hS : ∀ w, S w → w.cell? ⟨b, off, none⟩ = some u) : YieldsIf Try.prog ops S o u a := by
  refine .inl ⟨hw, fun w hb => ?_⟩
  have hc := hS w hb
  have hu := Try.underlying23
  obtain ⟨dst, op, type, pos, after, guard⟩ := o
  simp only at ho
  subst ho
  simp only [execOp, Sem.run_bind, Sem.run_pure]
  rw [hx]
  simp [Instr.loadAt, go_sem, hc]
theorem yields_int {ops : Array Oper} {o : Oper} {a : Act} {S : World → Prop} (x : Operand) (ho : o.op = .load 3 x) (b off : Nat) (u : Value) (hx : a.eval x = .pointer (some ⟨b, off, none⟩)) (hw : Region.wanted o (yielded ops a.tmps) = true) (hS : ∀ w, S w → w.cell? ⟨b, off, none⟩ = some u) : YieldsIf Try.prog ops S o u a := by
  refine .inl ⟨hw, fun w hb => ?_⟩
  have hc := hS w hb
  have hu := Try.underlying3
  obtain ⟨dst, op, type, pos, after, guard⟩ := o
  simp only at ho
  subst ho
  simp only [execOp, Sem.run_bind, Sem.run_pure]
  rw [hx]
  simp [Instr.loadAt, go_sem, hc]
theorem yields_bytes {ops : Array Oper} {o : Oper} {a : Act} {S : World → Prop} (x : Operand) (ho : o.op = .load 43 x) (b off : Nat) (u : Value) (hx : a.eval x = .pointer (some ⟨b, off, none⟩)) (hw : Region.wanted o (yielded ops a.tmps) = true) (hS : ∀ w, S w → w.cell? ⟨b, off, none⟩ = some u) : YieldsIf Try.prog ops S o u a := by
  refine .inl ⟨hw, fun w hb => ?_⟩
  have hc := hS w hb
  have hu := Try.underlying43
  obtain ⟨dst, op, type, pos, after, guard⟩ := o
  simp only at ho
  subst ho
  simp only [execOp, Sem.run_bind, Sem.run_pure]
  rw [hx]
  simp [Instr.loadAt, go_sem, hc]
theorem yields_wins {ops : Array Oper} {o : Oper} {a : Act} {S : World → Prop} (x : Operand) (ho : o.op = .load 27 x) (b off : Nat) (u : Value) (hx : a.eval x = .pointer (some ⟨b, off, none⟩)) (hw : Region.wanted o (yielded ops a.tmps) = true) (hS : ∀ w, S w → w.cell? ⟨b, off, none⟩ = some u) : YieldsIf Try.prog ops S o u a := by
  refine .inl ⟨hw, fun w hb => ?_⟩
  have hc := hS w hb
  have hu := Try.underlying27
  obtain ⟨dst, op, type, pos, after, guard⟩ := o
  simp only at ho
  subst ho
  simp only [execOp, Sem.run_bind, Sem.run_pure]
  rw [hx]
  simp [Instr.loadAt, go_sem, hc]
end Go.Proofs.Ythknkfggpdhdbaa
namespace Go.Proofs.Ythknkfggpdhdbaa
open Go.RowKit

def zS : Array Value := #[.pointer none, .int .i64 0, .int .i64 0, .int .i64 0, .slice none 0 0, .int .i64 0, .slice none 0 0]
def opC (kd : Int) (two : Bool) (i n : Int) (oa : Option Addr) (fl oc : Nat) : Array Value := #[.int .i64 kd, .bool two, .int .i64 i, .int .i64 n, .slice oa fl oc]
/-- a call's boxes: its side, its step, its result -/
structure Bxs (W : World) (O : Nat) (v : SV) (C : Array Value) : Prop where
  box : SdAt W O v
  op : W.heap[O + 1]? = some (.cells C 68 (0, 0))
  res : W.heap[O + 2]? = some (.cells zS 29 (0, 0))
theorem bxs_new (w : World) (v : SV) (C : Array Value) : Bxs (((w.alloc (.cells v.cells 29)).alloc (.cells C 68)).alloc (.cells zS 29)) w.heap.size v C := by
  refine ⟨?_, ?_, ?_⟩
  · unfold SdAt
    rw [heap_alloc_old _ _ (by simp; omega), heap_alloc_old _ _ (by simp)]
    exact sdAt_new w v
  · have := heap_alloc_new (w.alloc (.cells v.cells 29)) (.cells C 68)
    rw [heap_alloc_old _ _ (by simp)]
    simpa using this
  · have := heap_alloc_new ((w.alloc (.cells v.cells 29)).alloc (.cells C 68)) (.cells zS 29)
    simpa using this
theorem bxs_below (w : World) (v : SV) (C : Array Value) : Below w.heap.size w (((w.alloc (.cells v.cells 29)).alloc (.cells C 68)).alloc (.cells zS 29)) :=
  (((Below.refl _ _).alloc (Nat.le_refl _) _).alloc (by simp) _).alloc (by simp; omega) _
theorem bxs_size (w : World) (v : SV) (C : Array Value) : (((w.alloc (.cells v.cells 29)).alloc (.cells C 68)).alloc (.cells zS 29)).heap.size = w.heap.size + 3 := by simp
variable {W W' : World} {O : Nat} {v : SV} {C : Array Value}
theorem Bxs.ch {S : Nat → Prop} (h : Bxs W O v C) (k : Ch S W W') (h0 : ¬ S O) (h1 : ¬ S (O + 1)) (h2 : ¬ S (O + 2)) : Bxs W' O v C :=
  ⟨h.box.ch k h0, (k.block (O + 1) (Array.getElem?_eq_some_iff.1 h.op).1 h1).trans h.op, (k.block (O + 2) (Array.getElem?_eq_some_iff.1 h.res).1 h2).trans h.res⟩
theorem Bxs.below (h : Bxs W O v C) (k : Below W.heap.size W W') : Bxs W' O v C := h.ch (Ch.ofBelow (S := fun _ => False) k) id id id
theorem Bxs.lt (h : Bxs W O v C) : O + 2 < W.heap.size := (Array.getElem?_eq_some_iff.1 h.res).1
variable {kd : Int} {two : Bool} {i n : Int} {oa : Option Addr} {fl oc : Nat}
theorem Bxs.ckd (h : Bxs W O v (opC kd two i n oa fl oc)) : W.cell? ⟨O + 1, 0, none⟩ = some (.int .i64 kd) := by simp [World.cell?, h.op, opC]
theorem Bxs.ci (h : Bxs W O v (opC kd two i n oa fl oc)) : W.cell? ⟨O + 1, 2, none⟩ = some (.int .i64 i) := by simp [World.cell?, h.op, opC]
theorem Bxs.cn (h : Bxs W O v (opC kd two i n oa fl oc)) : W.cell? ⟨O + 1, 3, none⟩ = some (.int .i64 n) := by simp [World.cell?, h.op, opC]
theorem Bxs.cb (h : Bxs W O v (opC kd two i n oa fl oc)) : W.cell? ⟨O + 1, 4, none⟩ = some (.slice oa fl oc) := by simp [World.cell?, h.op, opC]
/-- behind a call of the port's the document's port stands as it was -/
theorem SideOk.refp {B : Nat} {w w1 : World} {s1 : PS} (h : SideOk B w v) (hp : Played w w1 v.P v.gb v.gf v.gr v.gt v.s s1) : RV.ok w1 v.r ∧ ∀ a, v.r.al = some a → a.block < w1.heap.size :=
  ⟨h.ref.ch hp.ch (fun a ha e => h.dd a.block (.inl ⟨a, ha, rfl⟩) (.inl e)) (fun q hq e => h.dd q (.inr hq) (.inl e)), fun a ha => Nat.lt_of_lt_of_le (h.alr a ha) hp.ch.size⟩
theorem Loc.boxes {B F : Nat} {w x w1 : World} {s1 : PS} {C : Array Value} (h : Loc B F w x v v) (hO : w.heap.size = O) (hb : Bxs x O v C) (hp : Played x w1 v.P v.gb v.gf v.gr v.gt v.s s1) : Bxs w1 O v C := by
  have hq : ∀ q, O ≤ q → ¬ v.pb q := fun q h1 h2 => by have := h.old q (.inl (.inl h2)); omega
  exact hb.ch hp.ch (hq _ (by omega)) (hq _ (by omega)) (hq _ (by omega))
theorem pz (w : World) : RpAt (w.alloc (.cells #[.int .i64 0, .int .i64 0, .int .i64 0, .slice none 0 0, .int .i64 0] 26)) w.heap.size rz := rpAt_new w rz
theorem mv_al (r : RV) (i pc g cl : Nat) : ∀ a, (r.mv i pc g cl).al = some a → a.block = g := fun a ha => by
  have := Option.some.inj ha
  subst this
  rfl
theorem TwinR.refilled {s : PS} {r r2 : RV} (h : TwinR s r) (hf : s.filled ≤ s.rx.length) (n : Int) (k : Nat) (h1 : r2.L = (rfRun r.rx n.toNat r.L r.now).2) (h2 : (k : Int) = (rfRun r.rx n.toNat r.L r.now).1) (h3 : r2.now = r.now + k) (h4 : r2.rx = r.rx) (h5 : r2.tx = r.tx) (h6 : r2.size = r.size) : k = min n.toNat (min s.fr.length (s.rxn - s.rx.length)) ∧ TwinR (s.refilled k) r2 := by
  obtain ⟨e1, e2⟩ := TwinR.run n.toNat s r h hf
  have hk : k = (rfRun r.rx n.toNat r.L r.now).1 := by omega
  rw [← hk] at e1 e2
  exact ⟨e1, e2.of_same h1 (by rw [h3]) h4 h5 h6⟩

/-- behind a call of the port's -/
structure Pt (x w1 : World) (v : SV) (s1 : PS) : Prop where
  pl : Played x w1 v.P v.gb v.gf v.gr v.gt v.s s1
  bb : ∀ i b, i < v.s.pool → v.s.bb i = some b → s1.bb i = some b
/-- behind the document's answer -/
structure Nx (w1 w2 : World) (v : SV) (s1 : PS) (r2 : RV) : Prop where
  tw : TwinR s1 r2
  ok : RV.ok w2 r2
  al : ∀ a, r2.al = some a → a.block < w2.heap.size
  alr : r2.al = v.r.al ∨ ∀ a, r2.al = some a → w1.heap.size ≤ a.block
  dr : ∀ q, r2.dblk q → v.r.dblk q ∨ w1.heap.size ≤ q
  now : r2.now ≤ v.r.now + 8192
  bel : Below w1.heap.size w1 w2
theorem Loc.go {B F : Nat} {w x w1 w2 : World} {s1 : PS} {r2 : RV} (h : Loc B F w x v v) (hx : F ≤ x.heap.size) (p : Pt x w1 v s1) (n : Nx w1 w2 v s1 r2) : Loc B F w w2 v { v with s := s1, r := r2 } :=
  h.next hx p.pl n.bel p.bb n.tw n.ok n.al n.alr n.dr
section
variable {B : Nat} {x w1 w2 : World} {s1 : PS}
theorem Pt.none (h : SideOk B x v) (hb : Below x.heap.size x w1) : Pt x w1 v v.s := ⟨Played.none h.port h.inv hb, fun _ _ _ h => h⟩
/-- bytes of a buffer that had none, or the same -/
theorem bb_upd {s : PS} {k b N : Nat} (ho : s.bb k = some b ∨ (s.bb k = none ∧ N ≤ b)) : ∀ i c, s.bb i = some c → updF s.bb k (some b) i = some c := by
  intro i c hc
  by_cases e : i = k
  · subst e
    rw [updF_same]
    rcases ho with h | ⟨h, _⟩
    · rw [← h]; exact hc
    · rw [h] at hc; cases hc
  · rw [updF_other _ _ _ e]; exact hc
theorem Nx.same (h : SideOk B x v) (p : Pt x w1 v v.s) (hb : Below w1.heap.size w1 w2) : Nx w1 w2 v v.s v.r := by
  obtain ⟨r1, a1⟩ := h.refp p.pl
  exact ⟨h.twin, r1.old hb, fun a ha => Nat.lt_of_lt_of_le (a1 a ha) hb.size, .inl rfl, fun _ h => .inl h, by omega, hb⟩
theorem Nx.mv {k pc g cl : Nat} (ok : RV.ok w2 (v.r.mv k pc g cl)) (hk : k < v.r.L.length) (hg : w1.heap.size ≤ g) (tw : TwinR s1 (v.r.mv k pc g cl)) (hb : Below w1.heap.size w1 w2) : Nx w1 w2 v s1 (v.r.mv k pc g cl) := by
  have hgl := mv_lt ok hk
  exact ⟨tw, ok, fun a ha => by rw [mv_al _ _ _ _ _ a ha]; exact hgl, .inr (fun a ha => by rw [mv_al _ _ _ _ _ a ha]; exact hg), fun q hq => .inl (mv_dblk _ _ _ _ _ hk q hq), by show v.r.now + 1 ≤ _; omega, hb⟩
theorem Nx.ptmv {k pc g cl g' cl' : Nat} {y : RB} (ok : RV.ok w2 ((v.r.pt k y g' cl').mv k pc g cl)) (hk : k < v.r.L.length) (hg : w1.heap.size ≤ g) (hy : ∀ q, y.d ≠ [] → (∃ a, y.a = some a ∧ a.block = q) → v.r.dblk q ∨ w1.heap.size ≤ q) (tw : TwinR s1 ((v.r.pt k y g' cl').mv k pc g cl)) (hb : Below w1.heap.size w1 w2) : Nx w1 w2 v s1 ((v.r.pt k y g' cl').mv k pc g cl) := by
  have hk' : k < (v.r.pt k y g' cl').L.length := by show k < (v.r.L.set k y).length; rw [List.length_set]; exact hk
  have hgl := mv_lt ok hk'
  exact ⟨tw, ok, fun a ha => by rw [mv_al _ _ _ _ _ a ha]; exact hgl, .inr (fun a ha => by rw [mv_al _ _ _ _ _ a ha]; exact hg), fun q hq => by
    rcases pt_dblk _ _ _ _ _ _ (mv_dblk _ _ _ _ _ hk' q hq) with h1 | ⟨h1, h2⟩
    · exact .inl h1
    · exact hy q h1 h2, by show v.r.now + 1 ≤ _; omega, hb⟩
theorem refill_u (h : SideOk B x v) (n : Int) :
    Calls Try.prog 15 #[.pointer (some ⟨v.P, 0, none⟩), .int .i64 n] x fun e w1 => ∃ k : Nat, e = .returned (.int .i64 k) ∧ k = min n.toNat (min v.s.fr.length (v.s.rxn - v.s.rx.length)) ∧ Pt x w1 v (v.s.refilled k) := by
  refine (refill_t h.port h.inv n).mono ?_
  rintro e w1 ⟨k, hk, rfl, hp⟩
  exact ⟨k, rfl, hk, hp, fun _ _ _ h => h⟩
theorem refillR_u (h : SideOk B x v) (n : Int) (k : Nat) (hk : k = min n.toNat (min v.s.fr.length (v.s.rxn - v.s.rx.length))) (p : Pt x w1 v (v.s.refilled k)) (hn : v.r.now + 8192 ≤ 4611686018427387904) :
    Calls Try.prog 69 #[.agg v.r.cells, .int .i64 n] w1 fun e w2 => ∃ r2, e = .returned (.tuple #[.agg r2.cells, .int .i64 k]) ∧ Nx w1 w2 v (v.s.refilled k) r2 := by
  obtain ⟨r1, a1⟩ := h.refp p.pl
  refine (refillR_any w1 v.r r1 a1 hn n).mono ?_
  rintro e w2 ⟨k2, r2, hk2, hL2, hn2, hx2, ht2, hz2, rfl, ok2, al2, alr2, dr2, hb2⟩
  obtain ⟨ek, tw2⟩ := h.twin.refilled h.inv.fl n k2 hL2 hk2 hn2 hx2 ht2 hz2
  have e2 : k2 = k := by omega
  subst e2
  refine ⟨r2, rfl, tw2, ok2, al2, alr2, fun q hq => .inl (dr2 q hq), ?_, hb2⟩
  obtain ⟨_, _, l⟩ := h.port.lf
  have := l.ql
  have := h.port.p2
  omega
def RelS (s s1 : PS) (i : Int) : Prop := (hE s i ≠ 0 ∧ s1 = s) ∨ ∃ k : Nat, i = (k : Int) ∧ hE s i = 0 ∧ k < s.pool ∧ s.pl k = 4 ∧ s1 = { s with pl := updF s.pl k 1, fr := s.fr ++ [k] }
theorem release_u (h : SideOk B x v) (i : Int) :
    Calls Try.prog 53 #[.pointer (some ⟨v.P, 0, none⟩), .int .i64 i] x fun e w1 => ∃ s1, e = .returned (.int .i64 (hE v.s i)) ∧ RelS v.s s1 i ∧ Pt x w1 v s1 := by
  refine (release_t h.port h.inv i).mono ?_
  rintro e w1 ⟨rfl, ⟨h1, rfl⟩ | ⟨k, h1, h2, h3, h4, hp⟩⟩
  · exact ⟨v.s, rfl, .inl ⟨h1, rfl⟩, Pt.none h (Below.refl _ _)⟩
  · exact ⟨_, rfl, .inr ⟨k, h1, h2, h3, h4, rfl⟩, hp, fun _ _ _ h => h⟩
theorem releaseR_u (h : SideOk B x v) (i : Int) (s1 : PS) (hs : RelS v.s s1 i) (p : Pt x w1 v s1) (hn : v.r.now + 8192 ≤ 4611686018427387904) :
    Calls Try.prog 70 #[.agg v.r.cells, .int .i64 i] w1 fun e w2 => ∃ r2, e = .returned (.tuple #[.agg r2.cells, .int .i64 (hE v.s i)]) ∧ Nx w1 w2 v s1 r2 := by
  obtain ⟨r1, a1⟩ := h.refp p.pl
  refine (releaseR_any w1 v.r r1 (by omega) i).mono ?_
  rintro e w2 ⟨r2, rfl, ok2, hb2, hc⟩
  rw [h.twin.bE] at hc ⊢
  rcases hs with ⟨h1, rfl⟩ | ⟨k, rfl, h2, h3, h4, rfl⟩
  · rcases hc with ⟨_, rfl⟩ | ⟨h5, _⟩
    · exact ⟨_, rfl, Nx.same h p hb2⟩
    · exact absurd h5 h1
  · rcases hc with ⟨h5, _⟩ | ⟨_, k', g, cl, e2, hg, rfl⟩
    · exact absurd h2 h5
    · have e3 : k = k' := by omega
      subst e3
      exact ⟨_, rfl, Nx.mv ok2 (by rw [h.twin.len]; exact h3) hg (h.twin.released h3 h4 g cl) hb2⟩
def SndS (s s1 : PS) (i n : Int) : Prop := (sE s i n ≠ 0 ∧ s1 = s) ∨ ∃ k m : Nat, i = (k : Int) ∧ n = (m : Int) ∧ sE s i n = 0 ∧ k < s.pool ∧ s.pl k = 4 ∧ m ≤ s.size ∧ s1 = { s with pl := updF s.pl k 5, ln := updF s.ln k m, tx := s.tx ++ [k] }
theorem send_u (h : SideOk B x v) (i n : Int) :
    Calls Try.prog 22 #[.pointer (some ⟨v.P, 0, none⟩), .int .i64 i, .int .i64 n] x fun e w1 => ∃ s1, e = .returned (.int .i64 (sE v.s i n)) ∧ SndS v.s s1 i n ∧ Pt x w1 v s1 := by
  refine (send_t h.port h.inv i n).mono ?_
  rintro e w1 ⟨rfl, ⟨h1, hb⟩ | ⟨k, m, h1, h2, h3, h4, h5, h6, hp⟩⟩
  · exact ⟨v.s, rfl, .inl ⟨h1, rfl⟩, Pt.none h hb⟩
  · exact ⟨_, rfl, .inr ⟨k, m, h1, h2, h3, h4, h5, h6, rfl⟩, hp, fun _ _ _ h => h⟩
theorem dself {r : RV} {k : Nat} (hk : k < r.L.length) {q : Nat} (h1 : (r.L[k]'hk).d ≠ []) (h2 : ∃ a, (r.L[k]'hk).a = some a ∧ a.block = q) : r.dblk q := ⟨_, List.getElem_mem hk, h1, h2⟩
theorem sendR_u (h : SideOk B x v) (i n : Int) (s1 : PS) (hs : SndS v.s s1 i n) (p : Pt x w1 v s1) (hn : v.r.now + 8192 ≤ 4611686018427387904) :
    Calls Try.prog 71 #[.agg v.r.cells, .int .i64 i, .int .i64 n] w1 fun e w2 => ∃ r2, e = .returned (.tuple #[.agg r2.cells, .int .i64 (sE v.s i n)]) ∧ Nx w1 w2 v s1 r2 := by
  obtain ⟨r1, a1⟩ := h.refp p.pl
  have ht : v.s.tx.length ≤ v.s.txn := by obtain ⟨_, _, l⟩ := h.port.lt; exact l.ql
  have hsz : v.r.size ≤ 65535 := by rw [h.twin.size]; exact h.port.sz2
  refine (sendR_any w1 v.r r1 a1 (by omega) hsz i n).mono ?_
  rintro e w2 hc
  rw [h.twin.sR ht] at hc
  rcases hs with ⟨h1, rfl⟩ | ⟨k, m, rfl, rfl, h2, h3, h4, h5, rfl⟩
  · rcases hc with ⟨_, rfl, hb2⟩ | ⟨_, _, _, _, _, _, _, h5, _⟩
    · exact ⟨_, rfl, Nx.same h p hb2⟩
    · exact absurd h5 h1
  · rcases hc with ⟨h5, _⟩ | ⟨k', m', g, cl, g', cl', hk, _, e2, e3, rfl, ok2, hg, _, hb2⟩
    · exact absurd h2 h5
    · have e4 : k = k' := by omega
      have e5 : m = m' := by omega
      subst e4 e5
      refine ⟨_, by rw [h2], Nx.ptmv ok2 hk hg (fun q hd ha => .inl (dself hk hd ha)) (h.twin.sent h4 hk m g cl g' cl') hb2⟩
end
end Go.Proofs.Ythknkfggpdhdbaa
namespace Go.Proofs.Ythknkfggpdhdbaa
open Go.RowKit

set_option maxRecDepth 100000 in
set_option maxHeartbeats 3200000 in
theorem moved_refill (B : Nat) (w : World) (v : SV) (ok : SideOk B w v) (hnow : v.r.now + 8192 ≤ 4611686018427387904) (two : Bool) (i n : Int) (oa : Option Addr) (fl oc : Nat) :
    Calls Try.prog 57 #[.agg v.cells, .agg (opC 1 two i n oa fl oc)] w fun e w' => ∃ v', e = .returned (.tuple #[.agg v'.cells, .bool true]) ∧ Stepped B w w' v v' ∧ v'.W = v.W ∧ v'.s = v.s.refilled (min n.toNat (min v.s.fr.length (v.s.rxn - v.s.rx.length))) := by
  obtain ⟨C, hC⟩ : ∃ C, C = opC 1 two i n oa fl oc := ⟨_, rfl⟩
  rw [← hC]
  obtain ⟨W, hW⟩ : ∃ W, W = ((w.alloc (.cells v.cells 29)).alloc (.cells C 68)).alloc (.cells zS 29) := ⟨_, rfl⟩
  obtain ⟨O, hO⟩ : ∃ O, O = w.heap.size := ⟨_, rfl⟩
  have hbx : Bxs W O v C := by rw [hW, hO]; exact bxs_new w v C
  have hsz : W.heap.size = O + 3 := by rw [hW, hO]; exact bxs_size w v C
  have hL : Loc B (O + 3) w W v v := by rw [← hsz, hW]; exact Loc.start ok (bxs_below w v C)
  have HW : Hid (((w.alloc (.cells v.cells 29)).alloc (.cells C 68)).alloc (.cells #[.pointer none, .int .i64 0, .int .i64 0, .int .i64 0, .slice none 0 0, .int .i64 0, .slice none 0 0] 29) = W) := hW.symm
  have HO : Hid (w.heap.size = O) := hO.symm
  have HSZ : Hid (W.heap.size = O + 3) := hsz
  have HL : Hid _ := hL
  have HB : Hid _ := hbx
  have c0 := hbx.box.c0
  have ck : W.cell? ⟨O + 1, 0, none⟩ = some (.int .i64 1) := by rw [hC] at hbx; exact hbx.ckd
  have ci : W.cell? ⟨O + 1, 2, none⟩ = some (.int .i64 i) := by rw [hC] at hbx; exact hbx.ci
  have cn : W.cell? ⟨O + 1, 3, none⟩ = some (.int .i64 n) := by rw [hC] at hbx; exact hbx.cn
  have HC : Hid (C = opC 1 two i n oa fl oc) := hC
  have Q1 : Hid _ := refill_u hL.ok n
  clear hW hO hsz hL hC ok hbx
  go_enter Try.func57, Try.ntmps57
  go_upto_region 1 with fail
  rw [HW.out, HO.out]
  go_wp2_with fail
  refine Calls.mono Q1.out ?_
  rintro e w1 ⟨k, rfl, hk, hp⟩
  have hbx1 := HL.out.boxes HO.out HB.out hp.pl
  have hbox1 := hbx1.box
  have ci1 : w1.cell? ⟨O + 1, 2, none⟩ = some (.int .i64 i) := by have h := hbx1; rw [HC.out] at h; exact h.ci
  have cn1 : w1.cell? ⟨O + 1, 3, none⟩ = some (.int .i64 n) := by have h := hbx1; rw [HC.out] at h; exact h.cn
  have HP : Hid _ := hp
  have HB1 : Hid _ := hbx1
  have Q2 : Hid _ := refillR_u HL.out.ok n k hk hp hnow
  have HK : Hid _ := hk
  clear Q1 hp hbx1 c0 ck cn ci hk
  go_wp2_with (first | (refine wpList_load_sr (.tmp 32) rfl O v rfl hbox1 rfl ?_))
  refine Calls.mono Q2.out ?_
  rintro e w2 ⟨r2, rfl, nx⟩
  have HL2 : Hid _ := HL.out.go (by rw [HSZ.out]; omega) HP.out nx
  have HB2 : Hid _ := HB1.out.below nx.bel
  have HN2 : Hid _ := nx.now
  clear Q2 hbox1 cn1 ci1 nx
  have hz := pz w2
  go_wp2_with (first | (refine wpList_store_rp (.tmp 7) (.tmp 37) rfl rfl w2.heap.size rz r2 rfl rfl hz rfl ?_))
  intro w3 hR3 k3
  have L3 := HL2.out.put _ rfl k3
  have h0a : Below w2.heap.size w2 (w2.alloc (.cells #[.int .i64 0, .int .i64 0, .int .i64 0, .slice none 0 0, .int .i64 0] 26)) := (Below.refl _ _).alloc (Nat.le_refl _) _
  have hlt2 := HB2.out.lt
  have hbx3 := (HB2.out.below h0a).ch k3 (show ¬ O = w2.heap.size by omega) (show ¬ O + 1 = w2.heap.size by omega) (show ¬ O + 2 = w2.heap.size by omega)
  have hbox3 := hbx3.box
  have HL3 : Hid _ := L3
  have HB3 : Hid _ := hbx3
  have K23 : Hid (Ch (fun q => q = O ∨ w2.heap.size ≤ q) w2 w3) := (Ch.ofBelow (S := fun q => q = O ∨ w2.heap.size ≤ q) h0a).trans k3 (fun q _ e => .inr (by have e' : q = w2.heap.size := e; omega))
  clear L3 h0a hlt2 hbx3 k3 hz
  go_wp2_with (first | (refine wpList_load_rp (.tmp 7) rfl w2.heap.size r2 rfl hR3 rfl ?_) | (refine wpList_store_sr (.tmp 40) (.tmp 39) rfl rfl O v r2 rfl rfl hbox3 rfl ?_))
  intro w4 hbox4 k4
  have L4 := HL3.out.set (X := O) (by have := HO.out; omega) (by omega) k4
  have hop4 := (k4.block (O + 1) (Array.getElem?_eq_some_iff.1 HB3.out.op).1 (show ¬ O + 1 = O by omega)).trans HB3.out.op
  have hres4 := (k4.block (O + 2) (Array.getElem?_eq_some_iff.1 HB3.out.res).1 (show ¬ O + 2 = O by omega)).trans HB3.out.res
  have HL4 : Hid _ := L4
  have K24 : Hid (Ch (fun q => q = O ∨ w2.heap.size ≤ q) w2 w4) := K23.out.trans k4 (fun q _ e => .inl e)
  have HOP4 : Hid _ := hop4
  clear L4 hop4 k4 hbox3 hR3 K23
  obtain ⟨V, hV⟩ : ∃ V : SV, V = { v with r := r2 } := ⟨_, rfl⟩
  rw [← hV] at hbox4
  have HV : Hid (V = { v with r := r2 }) := hV
  clear hV
  go_wp2_with (first | (refine wpList_load_sd (.tmp 2) rfl O V rfl hbox4 rfl ?_) | (refine wpList_store_sd (.tmp 4) (.tmp 41) rfl rfl (O + 2) zS rfl V rfl rfl hres4 rfl ?_))
  intro w5 hR5 k5
  have L5 := HL4.out.set (X := O + 2) (by have := HO.out; omega) (by omega) k5
  have HR5 : Hid _ := hR5
  have HL5 : Hid _ := L5
  clear L5 k5 hR5 hbox4 hres4
  go_wp2
  (try simp only [Exit.inBlock, Exit.then])
  refine bodyPost_ret (results_sd_tmp rfl _ _ (O + 2) V rfl HR5.out) rfl ?_
  exact ⟨_, by rw [HV.out]; rfl, HL5.out.fin HN2.out (Nat.le_succ _), rfl, by rw [← HK.out]⟩
set_option maxRecDepth 100000 in
set_option maxHeartbeats 3200000 in
theorem moved_release (B : Nat) (w : World) (v : SV) (ok : SideOk B w v) (hnow : v.r.now + 8192 ≤ 4611686018427387904) (two : Bool) (i n : Int) (oa : Option Addr) (fl oc : Nat) :
    Calls Try.prog 57 #[.agg v.cells, .agg (opC 6 two i n oa fl oc)] w fun e w' => ∃ v', e = .returned (.tuple #[.agg v'.cells, .bool true]) ∧ Stepped B w w' v v' ∧ v'.W = v.W := by
  obtain ⟨C, hC⟩ : ∃ C, C = opC 6 two i n oa fl oc := ⟨_, rfl⟩
  rw [← hC]
  obtain ⟨W, hW⟩ : ∃ W, W = ((w.alloc (.cells v.cells 29)).alloc (.cells C 68)).alloc (.cells zS 29) := ⟨_, rfl⟩
  obtain ⟨O, hO⟩ : ∃ O, O = w.heap.size := ⟨_, rfl⟩
  have hbx : Bxs W O v C := by rw [hW, hO]; exact bxs_new w v C
  have hsz : W.heap.size = O + 3 := by rw [hW, hO]; exact bxs_size w v C
  have hL : Loc B (O + 3) w W v v := by rw [← hsz, hW]; exact Loc.start ok (bxs_below w v C)
  have HW : Hid (((w.alloc (.cells v.cells 29)).alloc (.cells C 68)).alloc (.cells #[.pointer none, .int .i64 0, .int .i64 0, .int .i64 0, .slice none 0 0, .int .i64 0, .slice none 0 0] 29) = W) := hW.symm
  have HO : Hid (w.heap.size = O) := hO.symm
  have HSZ : Hid (W.heap.size = O + 3) := hsz
  have HL : Hid _ := hL
  have HB : Hid _ := hbx
  have c0 := hbx.box.c0
  have ck : W.cell? ⟨O + 1, 0, none⟩ = some (.int .i64 6) := by rw [hC] at hbx; exact hbx.ckd
  have ci : W.cell? ⟨O + 1, 2, none⟩ = some (.int .i64 i) := by rw [hC] at hbx; exact hbx.ci
  have cn : W.cell? ⟨O + 1, 3, none⟩ = some (.int .i64 n) := by rw [hC] at hbx; exact hbx.cn
  have HC : Hid (C = opC 6 two i n oa fl oc) := hC
  have Q1 : Hid _ := release_u hL.ok i
  clear hW hO hsz hL hC ok hbx
  go_enter Try.func57, Try.ntmps57
  go_upto_region 1 with fail
  rw [HW.out, HO.out]
  go_wp2_with fail
  refine Calls.mono Q1.out ?_
  rintro e w1 ⟨s1, rfl, hk, hp⟩
  have hbx1 := HL.out.boxes HO.out HB.out hp.pl
  have hbox1 := hbx1.box
  have ci1 : w1.cell? ⟨O + 1, 2, none⟩ = some (.int .i64 i) := by have h := hbx1; rw [HC.out] at h; exact h.ci
  have cn1 : w1.cell? ⟨O + 1, 3, none⟩ = some (.int .i64 n) := by have h := hbx1; rw [HC.out] at h; exact h.cn
  have HP : Hid _ := hp
  have HB1 : Hid _ := hbx1
  have Q2 : Hid _ := releaseR_u HL.out.ok i s1 hk hp hnow
  have HK : Hid _ := hk
  clear Q1 hp hbx1 c0 ck cn ci hk
  go_wp2_with (first | (refine wpList_load_sr (.tmp 53) rfl O v rfl hbox1 rfl ?_))
  refine Calls.mono Q2.out ?_
  rintro e w2 ⟨r2, rfl, nx⟩
  have HL2 : Hid _ := HL.out.go (by rw [HSZ.out]; omega) HP.out nx
  have HB2 : Hid _ := HB1.out.below nx.bel
  have HN2 : Hid _ := nx.now
  clear Q2 hbox1 cn1 ci1 nx
  have hz := pz w2
  go_wp2_with (first | (refine wpList_store_rp (.tmp 10) (.tmp 58) rfl rfl w2.heap.size rz r2 rfl rfl hz rfl ?_))
  intro w3 hR3 k3
  have L3 := HL2.out.put _ rfl k3
  have h0a : Below w2.heap.size w2 (w2.alloc (.cells #[.int .i64 0, .int .i64 0, .int .i64 0, .slice none 0 0, .int .i64 0] 26)) := (Below.refl _ _).alloc (Nat.le_refl _) _
  have hlt2 := HB2.out.lt
  have hbx3 := (HB2.out.below h0a).ch k3 (show ¬ O = w2.heap.size by omega) (show ¬ O + 1 = w2.heap.size by omega) (show ¬ O + 2 = w2.heap.size by omega)
  have hbox3 := hbx3.box
  have HL3 : Hid _ := L3
  have HB3 : Hid _ := hbx3
  have K23 : Hid (Ch (fun q => q = O ∨ w2.heap.size ≤ q) w2 w3) := (Ch.ofBelow (S := fun q => q = O ∨ w2.heap.size ≤ q) h0a).trans k3 (fun q _ e => .inr (by have e' : q = w2.heap.size := e; omega))
  clear L3 h0a hlt2 hbx3 k3 hz
  go_wp2_with (first | (refine wpList_load_rp (.tmp 10) rfl w2.heap.size r2 rfl hR3 rfl ?_) | (refine wpList_store_sr (.tmp 61) (.tmp 60) rfl rfl O v r2 rfl rfl hbox3 rfl ?_))
  intro w4 hbox4 k4
  have L4 := HL3.out.set (X := O) (by have := HO.out; omega) (by omega) k4
  have hop4 := (k4.block (O + 1) (Array.getElem?_eq_some_iff.1 HB3.out.op).1 (show ¬ O + 1 = O by omega)).trans HB3.out.op
  have hres4 := (k4.block (O + 2) (Array.getElem?_eq_some_iff.1 HB3.out.res).1 (show ¬ O + 2 = O by omega)).trans HB3.out.res
  have HL4 : Hid _ := L4
  have K24 : Hid (Ch (fun q => q = O ∨ w2.heap.size ≤ q) w2 w4) := K23.out.trans k4 (fun q _ e => .inl e)
  have HOP4 : Hid _ := hop4
  clear L4 hop4 k4 hbox3 hR3 K23
  obtain ⟨V, hV⟩ : ∃ V : SV, V = { v with r := r2 } := ⟨_, rfl⟩
  rw [← hV] at hbox4
  have HV : Hid (V = { v with r := r2 }) := hV
  clear hV
  go_wp2
  refine MixH.start (fun x => SdAt x O V) (by kernel_rfl) ?_
  obtain ⟨wA, hwA⟩ : ∃ wA, wA = w4.drew := ⟨_, rfl⟩
  have hS : SdAt wA O V := by rw [hwA]; exact hbox4
  have hresA : wA.heap[O + 2]? = some (.cells zS 29 (0, 0)) := by rw [hwA]; exact hres4
  have HLA : Hid _ := HL4.out.below (Below.refl w4.heap.size w4).drew
  rw [← hwA] at HLA ⊢
  clear hwA hbox4 hres4
  refine MixH.takes [false, true, false, true] 5 (by kernel_rfl) (by kernel_rfl) (by decide) (by kernel_rfl) hS (fun K hK => ?_)
  simp only [Mix.pick]
  repeat (go_big_quiet_step (fail))
  refine wpQuiet_nil (hK _ ?_)
  clear hK K
  refine MixH.take 4 0 _ (.agg V.cells) rfl (by kernel_rfl) (by kernel_rfl) (by kernel_rfl) (by kernel_rfl) (yields_sd (.tmp 2) rfl O V rfl rfl (fun _ h => h)) hS (fun a' ha => ?_)
  simp only [Act.put, List.setIfInBounds_toArray, List.set_cons_succ, List.set_cons_zero] at ha
  subst ha
  refine MixH.one [false, false, true] 3 2 _ rfl rfl (by kernel_rfl) (by kernel_rfl) (fun K hK => ?_)
  simp only [Mix.pick]
  have QN : Hid _ := num_any (hE v.s i) wA
  go_wp2_with fail
  refine Calls.mono QN.out ?_
  rintro e wN ⟨rfl, rfl⟩
  clear QN
  go_wp2
  refine ⟨rfl, hK _ _ hS ?_⟩
  clear hK K
  refine MixH.takes [false, false, false, false, true] 2 (by kernel_rfl) (by kernel_rfl) (by decide) (by kernel_rfl) hS (fun K hK => ?_)
  simp only [Mix.pick]
  repeat (go_big_quiet_step (fail))
  refine wpQuiet_nil (hK _ ?_)
  clear hK K
  refine MixH.one [false, false, false, false, false, true] 1 5 _ rfl rfl (by kernel_rfl) (by kernel_rfl) (fun K hK => ?_)
  simp only [Mix.pick]
  refine wpList_store_sd (.tmp 4) (.tmp 62) rfl rfl (O + 2) zS rfl V rfl rfl hresA rfl ?_
  intro w5 hR5 k5
  have L5 := HLA.out.set (X := O + 2) (by have := HO.out; omega) (by omega) k5
  have HR5 : Hid _ := hR5
  have HL5 : Hid _ := L5
  replace hS := SdAt.ch hS k5 (show ¬ O = O + 2 by omega)
  clear L5 k5 hR5 hresA
  go_wp2
  refine ⟨rfl, hK _ _ hS ?_⟩
  clear hK K
  refine MixH.takes [false, false, false, false, false, false, true] 0 (by kernel_rfl) (by kernel_rfl) (by decide) (by kernel_rfl) hS (fun K hK => ?_)
  simp only [Mix.pick]
  repeat (go_big_quiet_step (fail))
  refine wpQuiet_nil (hK _ ?_)
  clear hK K
  refine MixH.done (by kernel_rfl) ?_
  go_wp2
  (try simp only [Exit.inBlock, Exit.then])
  refine bodyPost_ret (results_sd_tmp rfl _ _ (O + 2) V rfl HR5.out) rfl ?_
  exact ⟨_, by rw [HV.out]; rfl, HL5.out.fin HN2.out (Nat.le_succ _), rfl⟩
set_option maxRecDepth 100000 in
set_option maxHeartbeats 3200000 in
theorem moved_send (B : Nat) (w : World) (v : SV) (ok : SideOk B w v) (hnow : v.r.now + 8192 ≤ 4611686018427387904) (two : Bool) (i n : Int) (oa : Option Addr) (fl oc : Nat) :
    Calls Try.prog 57 #[.agg v.cells, .agg (opC 7 two i n oa fl oc)] w fun e w' => ∃ v', e = .returned (.tuple #[.agg v'.cells, .bool true]) ∧ Stepped B w w' v v' ∧ v'.W = v.W := by
  obtain ⟨C, hC⟩ : ∃ C, C = opC 7 two i n oa fl oc := ⟨_, rfl⟩
  rw [← hC]
  obtain ⟨W, hW⟩ : ∃ W, W = ((w.alloc (.cells v.cells 29)).alloc (.cells C 68)).alloc (.cells zS 29) := ⟨_, rfl⟩
  obtain ⟨O, hO⟩ : ∃ O, O = w.heap.size := ⟨_, rfl⟩
  have hbx : Bxs W O v C := by rw [hW, hO]; exact bxs_new w v C
  have hsz : W.heap.size = O + 3 := by rw [hW, hO]; exact bxs_size w v C
  have hL : Loc B (O + 3) w W v v := by rw [← hsz, hW]; exact Loc.start ok (bxs_below w v C)
  have HW : Hid (((w.alloc (.cells v.cells 29)).alloc (.cells C 68)).alloc (.cells #[.pointer none, .int .i64 0, .int .i64 0, .int .i64 0, .slice none 0 0, .int .i64 0, .slice none 0 0] 29) = W) := hW.symm
  have HO : Hid (w.heap.size = O) := hO.symm
  have HSZ : Hid (W.heap.size = O + 3) := hsz
  have HL : Hid _ := hL
  have HB : Hid _ := hbx
  have c0 := hbx.box.c0
  have ck : W.cell? ⟨O + 1, 0, none⟩ = some (.int .i64 7) := by rw [hC] at hbx; exact hbx.ckd
  have ci : W.cell? ⟨O + 1, 2, none⟩ = some (.int .i64 i) := by rw [hC] at hbx; exact hbx.ci
  have cn : W.cell? ⟨O + 1, 3, none⟩ = some (.int .i64 n) := by rw [hC] at hbx; exact hbx.cn
  have HC : Hid (C = opC 7 two i n oa fl oc) := hC
  have Q1 : Hid _ := send_u hL.ok i n
  clear hW hO hsz hL hC ok hbx
  go_enter Try.func57, Try.ntmps57
  go_upto_region 1 with fail
  rw [HW.out, HO.out]
  go_wp2_with fail
  refine Calls.mono Q1.out ?_
  rintro e w1 ⟨s1, rfl, hk, hp⟩
  have hbx1 := HL.out.boxes HO.out HB.out hp.pl
  have hbox1 := hbx1.box
  have ci1 : w1.cell? ⟨O + 1, 2, none⟩ = some (.int .i64 i) := by have h := hbx1; rw [HC.out] at h; exact h.ci
  have cn1 : w1.cell? ⟨O + 1, 3, none⟩ = some (.int .i64 n) := by have h := hbx1; rw [HC.out] at h; exact h.cn
  have HP : Hid _ := hp
  have HB1 : Hid _ := hbx1
  have Q2 : Hid _ := sendR_u HL.out.ok i n s1 hk hp hnow
  have HK : Hid _ := hk
  clear Q1 hp hbx1 c0 ck cn ci hk
  go_wp2_with (first | (refine wpList_load_sr (.tmp 77) rfl O v rfl hbox1 rfl ?_))
  refine Calls.mono Q2.out ?_
  rintro e w2 ⟨r2, rfl, nx⟩
  have HL2 : Hid _ := HL.out.go (by rw [HSZ.out]; omega) HP.out nx
  have HB2 : Hid _ := HB1.out.below nx.bel
  have HN2 : Hid _ := nx.now
  clear Q2 hbox1 cn1 ci1 nx
  have hz := pz w2
  go_wp2_with (first | (refine wpList_store_rp (.tmp 13) (.tmp 84) rfl rfl w2.heap.size rz r2 rfl rfl hz rfl ?_))
  intro w3 hR3 k3
  have L3 := HL2.out.put _ rfl k3
  have h0a : Below w2.heap.size w2 (w2.alloc (.cells #[.int .i64 0, .int .i64 0, .int .i64 0, .slice none 0 0, .int .i64 0] 26)) := (Below.refl _ _).alloc (Nat.le_refl _) _
  have hlt2 := HB2.out.lt
  have hbx3 := (HB2.out.below h0a).ch k3 (show ¬ O = w2.heap.size by omega) (show ¬ O + 1 = w2.heap.size by omega) (show ¬ O + 2 = w2.heap.size by omega)
  have hbox3 := hbx3.box
  have HL3 : Hid _ := L3
  have HB3 : Hid _ := hbx3
  have K23 : Hid (Ch (fun q => q = O ∨ w2.heap.size ≤ q) w2 w3) := (Ch.ofBelow (S := fun q => q = O ∨ w2.heap.size ≤ q) h0a).trans k3 (fun q _ e => .inr (by have e' : q = w2.heap.size := e; omega))
  clear L3 h0a hlt2 hbx3 k3 hz
  go_wp2_with (first | (refine wpList_load_rp (.tmp 13) rfl w2.heap.size r2 rfl hR3 rfl ?_) | (refine wpList_store_sr (.tmp 87) (.tmp 86) rfl rfl O v r2 rfl rfl hbox3 rfl ?_))
  intro w4 hbox4 k4
  have L4 := HL3.out.set (X := O) (by have := HO.out; omega) (by omega) k4
  have hop4 := (k4.block (O + 1) (Array.getElem?_eq_some_iff.1 HB3.out.op).1 (show ¬ O + 1 = O by omega)).trans HB3.out.op
  have hres4 := (k4.block (O + 2) (Array.getElem?_eq_some_iff.1 HB3.out.res).1 (show ¬ O + 2 = O by omega)).trans HB3.out.res
  have HL4 : Hid _ := L4
  have K24 : Hid (Ch (fun q => q = O ∨ w2.heap.size ≤ q) w2 w4) := K23.out.trans k4 (fun q _ e => .inl e)
  have HOP4 : Hid _ := hop4
  clear L4 hop4 k4 hbox3 hR3 K23
  obtain ⟨V, hV⟩ : ∃ V : SV, V = { v with r := r2 } := ⟨_, rfl⟩
  rw [← hV] at hbox4
  have HV : Hid (V = { v with r := r2 }) := hV
  clear hV
  go_wp2
  refine MixH.start (fun x => SdAt x O V) (by kernel_rfl) ?_
  obtain ⟨wA, hwA⟩ : ∃ wA, wA = w4.drew := ⟨_, rfl⟩
  have hS : SdAt wA O V := by rw [hwA]; exact hbox4
  have hresA : wA.heap[O + 2]? = some (.cells zS 29 (0, 0)) := by rw [hwA]; exact hres4
  have HLA : Hid _ := HL4.out.below (Below.refl w4.heap.size w4).drew
  rw [← hwA] at HLA ⊢
  clear hwA hbox4 hres4
  refine MixH.takes [false, true, false, true] 5 (by kernel_rfl) (by kernel_rfl) (by decide) (by kernel_rfl) hS (fun K hK => ?_)
  simp only [Mix.pick]
  repeat (go_big_quiet_step (fail))
  refine wpQuiet_nil (hK _ ?_)
  clear hK K
  refine MixH.take 4 0 _ (.agg V.cells) rfl (by kernel_rfl) (by kernel_rfl) (by kernel_rfl) (by kernel_rfl) (yields_sd (.tmp 2) rfl O V rfl rfl (fun _ h => h)) hS (fun a' ha => ?_)
  simp only [Act.put, List.setIfInBounds_toArray, List.set_cons_succ, List.set_cons_zero] at ha
  subst ha
  refine MixH.one [false, false, true] 3 2 _ rfl rfl (by kernel_rfl) (by kernel_rfl) (fun K hK => ?_)
  simp only [Mix.pick]
  have QN : Hid _ := num_any (sE v.s i n) wA
  go_wp2_with fail
  refine Calls.mono QN.out ?_
  rintro e wN ⟨rfl, rfl⟩
  clear QN
  go_wp2
  refine ⟨rfl, hK _ _ hS ?_⟩
  clear hK K
  refine MixH.takes [false, false, false, false, true] 2 (by kernel_rfl) (by kernel_rfl) (by decide) (by kernel_rfl) hS (fun K hK => ?_)
  simp only [Mix.pick]
  repeat (go_big_quiet_step (fail))
  refine wpQuiet_nil (hK _ ?_)
  clear hK K
  refine MixH.one [false, false, false, false, false, true] 1 5 _ rfl rfl (by kernel_rfl) (by kernel_rfl) (fun K hK => ?_)
  simp only [Mix.pick]
  refine wpList_store_sd (.tmp 4) (.tmp 88) rfl rfl (O + 2) zS rfl V rfl rfl hresA rfl ?_
  intro w5 hR5 k5
  have L5 := HLA.out.set (X := O + 2) (by have := HO.out; omega) (by omega) k5
  have HR5 : Hid _ := hR5
  have HL5 : Hid _ := L5
  replace hS := SdAt.ch hS k5 (show ¬ O = O + 2 by omega)
  clear L5 k5 hR5 hresA
  go_wp2
  refine ⟨rfl, hK _ _ hS ?_⟩
  clear hK K
  refine MixH.takes [false, false, false, false, false, false, true] 0 (by kernel_rfl) (by kernel_rfl) (by decide) (by kernel_rfl) hS (fun K hK => ?_)
  simp only [Mix.pick]
  repeat (go_big_quiet_step (fail))
  refine wpQuiet_nil (hK _ ?_)
  clear hK K
  refine MixH.done (by kernel_rfl) ?_
  go_wp2
  (try simp only [Exit.inBlock, Exit.then])
  refine bodyPost_ret (results_sd_tmp rfl _ _ (O + 2) V rfl HR5.out) rfl ?_
  exact ⟨_, by rw [HV.out]; rfl, HL5.out.fin HN2.out (Nat.le_succ _), rfl⟩
end Go.Proofs.Ythknkfggpdhdbaa
namespace Go.Proofs.Ythknkfggpdhdbaa
open Go.RowKit

section
variable {B F : Nat} {w x x' : World} {v v' : SV}
/-- a block of nobody's is written -/
theorem Loc.free {X : Nat} (h : Loc B F w x v v') (h1 : w.heap.size ≤ X) (h2 : ¬ v'.all X) (k : Ch (fun q => q = X) x x') : Loc B F w x' v v' :=
  ⟨h.ok.ch k (fun q hq e => by have e' : q = X := e; subst e'; exact h2 hq), h.ch.trans k (fun q hq e => by have e' : q = X := e; omega), h.new, h.old, h.hF⟩
end
theorem pad_take (d : List Nat) (N n : Nat) (hn : n ≤ N) : (pad d N).take n = bp d n := by
  apply List.ext_getElem?
  intro j
  by_cases hj : j < n
  · rw [List.getElem?_take_of_lt hj, pad_get d N j (by omega)]
    simp [bp, hj]
  · rw [List.getElem?_eq_none (by rw [List.length_take]; omega), List.getElem?_eq_none (by rw [bp_len]; omega)]
section
variable {B : Nat} {x w1 w2 : World} {v : SV} {s1 : PS}
theorem SideOk.bytes (h : SideOk B x v) {k : Nat} (hk : k < v.r.L.length) (n : Nat) (hn : n ≤ v.s.size) : (v.s.da k).take n = bp (v.r.L[k]'hk).d n := by
  rw [(h.twin.da k _ (List.getElem?_eq_getElem hk)).2, pad_take _ _ _ hn]
def DrnS (s s1 : PS) (x : World) (a : Option Addr) (c : Nat) (l : List Nat) (t : Bool) : Prop := (s.tx = [] ∧ s1 = s ∧ a = none ∧ c = 0 ∧ l = [] ∧ t = false) ∨ ∃ (i g b : Nat) (rest : List Nat), s.tx = i :: rest ∧ i < s.pool ∧ a = some ⟨g, 0, none⟩ ∧ c = s.ln i ∧ l = (s.da i).take (s.ln i) ∧ t = true ∧ g ≠ b ∧ x.heap.size ≤ g ∧ (s.bb i = some b ∨ (s.bb i = none ∧ x.heap.size ≤ b)) ∧ s1 = s.drained i b rest
theorem drain_u (h : SideOk B x v) :
    Calls Try.prog 23 #[.pointer (some ⟨v.P, 0, none⟩)] x fun e w1 => ∃ (s1 : PS) (a : Option Addr) (c : Nat) (l : List Nat) (t : Bool), e = .returned (.tuple #[.slice a l.length c, .bool t]) ∧ DrnS v.s s1 x a c l t ∧ w1.ownsRow x.heap.size 5 1 (.slice a l.length c) l.length ((toI l).map (Value.int .u8)) ∧ (∀ y ∈ l, y < 256) ∧ Pt x w1 v s1 := by
  refine (drain_t h.port h.inv).mono ?_
  rintro e w1 (⟨h1, rfl, rfl⟩ | ⟨i, g, b, rest, h1, h2, rfl, ho, h3, h4, hp⟩)
  · exact ⟨v.s, none, 0, [], false, rfl, .inl ⟨h1, rfl, rfl, rfl, rfl, rfl⟩, World.ownsRow_nil _ _ _ _, by simp, Pt.none h (Below.refl _ _)⟩
  · have hl : ((v.s.da i).take (v.s.ln i)).length = v.s.ln i := by
      rw [List.length_take, h.port.dl i h2]
      have := h.inv.ln i h2
      omega
    refine ⟨_, some ⟨g, 0, none⟩, v.s.ln i, (v.s.da i).take (v.s.ln i), true, by rw [hl], .inr ⟨i, g, b, rest, h1, h2, rfl, rfl, rfl, rfl, h3, (ho.lt g rfl).1, h4, rfl⟩, by rw [hl]; exact ho, fun y hy => h.port.d256 i h2 y (List.mem_of_mem_take hy), hp, fun j c _ hc => bb_upd h4 j c hc⟩
/-- what is handed out is none of the port's blocks -/
theorem drain_far (h : SideOk B x v) {a : Option Addr} {c : Nat} {l : List Nat} {t : Bool} (hs : DrnS v.s s1 x a c l t) (g : Nat) (hg : a = some ⟨g, 0, none⟩) : x.heap.size ≤ g ∧ ¬ PB v.P v.gb v.gf v.gr v.gt s1 g := by
  rcases hs with ⟨_, _, h1, _⟩ | ⟨i, g', b, rest, _, h2, h3, _, _, _, h4, h5, _, rfl⟩
  · rw [h1] at hg; cases hg
  · rw [h3] at hg
    have e : g' = g := by simpa using hg
    subst e
    refine ⟨h5, fun hq => ?_⟩
    have old : ∀ q, v.pb q → q < x.heap.size := fun q hq => h.lt q (.inl (.inl hq))
    rcases hq with e | e | e | e | e | ⟨j, hj, hb⟩
    · have := old g' (.inl e); omega
    · have := old g' (.inr (.inl e)); omega
    · have := old g' (.inr (.inr (.inl e))); omega
    · have := old g' (.inr (.inr (.inr (.inl e)))); omega
    · have := old g' (.inr (.inr (.inr (.inr (.inl e))))); omega
    · have hb' : updF v.s.bb i (some b) j = some g' := hb
      by_cases e : j = i
      · subst e
        rw [updF_same] at hb'
        exact h4 (Option.some.inj hb').symm
      · rw [updF_other _ _ _ e] at hb'
        have := old g' (.inr (.inr (.inr (.inr (.inr ⟨j, hj, hb'⟩)))))
        omega
theorem drainR_u (h : SideOk B x v) (s1 : PS) (a : Option Addr) (c : Nat) (l : List Nat) (t : Bool) (hs : DrnS v.s s1 x a c l t) (p : Pt x w1 v s1) (hn : v.r.now + 8192 ≤ 4611686018427387904) :
    Calls Try.prog 72 #[.agg v.r.cells] w1 fun e w2 => ∃ (r2 : RV) (a2 : Option Addr) (c2 : Nat), e = .returned (.tuple #[.agg r2.cells, .slice a2 l.length c2, .bool t]) ∧ Seg .u8 w2 a2 (toI l) ∧ (∀ y, a2 = some y → w1.heap.size ≤ y.block) ∧ Nx w1 w2 v s1 r2 := by
  obtain ⟨r1, a1⟩ := h.refp p.pl
  refine (drainR_any w1 v.r r1 a1 (by omega)).mono ?_
  rintro e w2 hc
  rw [h.twin.qu.first] at hc
  rcases hs with ⟨h1, rfl, rfl, rfl, rfl, rfl⟩ | ⟨i, g, b, rest, h1, h2, _, _, rfl, rfl, _, _, h4, rfl⟩
  · rw [h1] at hc
    rcases hc with ⟨_, rfl, hb2⟩ | ⟨k, _, _, _, _, h5, _⟩
    · exact ⟨_, none, 0, rfl, .inl rfl, fun y hy => (by cases hy), Nx.same h p hb2⟩
    · have h6 : (-1 : Int) = (k : Int) := h5
      omega
  · rw [h1] at hc
    rcases hc with ⟨h5, _⟩ | ⟨k, g', cl, hk, u, h5, rfl, ho, ok2, hg, _, hb2⟩
    · have h6 : (i : Int) < 0 := h5
      omega
    · have e3 : k = i := by have h6 : (i : Int) = (k : Int) := h5; omega
      subst e3
      have e4 : v.r.L[k].n = v.s.ln k := (h.twin.len_at hk).symm
      have hln := h.inv.ln k h2
      rw [e4, ← h.bytes hk _ hln] at ho
      have hl : ((v.s.da k).take (v.s.ln k)).length = v.s.ln k := by
        rw [List.length_take, h.port.dl k h2]
        omega
      obtain ⟨a2, c2, rfl, hs2, _⟩ := owns_seg ho
      exact ⟨_, a2, c2, by rw [hl], hs2, fun y hy => (ho.lt y.block (by rw [hy]; rfl)).1, Nx.mv ok2 hk hg (h.twin.drained h1 b g' cl).2 hb2⟩
end

/-- a byte of one's own is turned -/
theorem xor_step {x : World} {b m c : Nat} {a : Option Addr} {l' : List Int} (h : x.ownsRow b 5 1 (.slice a m c) m (l'.map (Value.int .u8))) (k : Nat) (hk : k < m) : ∃ g, a = some ⟨g, 0, none⟩ ∧ ∃ z : Int, x.cell? ⟨g, k, none⟩ = some (.int .u8 z) ∧ x.frozen? ⟨g, k, none⟩ = false ∧
    ∀ (u : Value) (y : Int), u = .int .u8 y → (x.setCell ⟨g, k, none⟩ u).ownsRow b 5 1 (.slice a m c) m ((l'.set k y).map (Value.int .u8)) ∧ Ch (fun q => q = g) x (x.setCell ⟨g, k, none⟩ u) := by
  have hl : l'.length = m := by have := h.1; simpa using this
  rcases h.2 with ⟨_, h0⟩ | ⟨g, cap, cur, e, _⟩
  · omega
  have ea : a = some ⟨g, 0, none⟩ := (Value.slice.inj e).1
  subst ea
  refine ⟨g, rfl, l'[k]'(by omega), ?_, h.frozenAt k, fun u y hu => ?_⟩
  · rw [h.cellAt k (by omega)]; simp [show k < l'.length by omega]
  · subst hu
    refine ⟨?_, (Ch.refl _ x).set _ _ rfl⟩
    have := (h.stored k (.int .u8 y)).1
    rwa [← List.map_set] at this

set_option maxRecDepth 100000 in
set_option maxHeartbeats 6400000 in
theorem moved_drain (B : Nat) (w : World) (v : SV) (ok : SideOk B w v) (hnow : v.r.now + 8192 ≤ 4611686018427387904) (two : Bool) (i n : Int) (oa : Option Addr) (fl oc : Nat) :
    Calls Try.prog 57 #[.agg v.cells, .agg (opC 8 two i n oa fl oc)] w fun e w' => ∃ v', e = .returned (.tuple #[.agg v'.cells, .bool true]) ∧ Stepped B w w' v v' ∧ v'.W = v.W := by
  obtain ⟨C, hC⟩ : ∃ C, C = opC 8 two i n oa fl oc := ⟨_, rfl⟩
  rw [← hC]
  obtain ⟨W, hW⟩ : ∃ W, W = ((w.alloc (.cells v.cells 29)).alloc (.cells C 68)).alloc (.cells zS 29) := ⟨_, rfl⟩
  obtain ⟨O, hO⟩ : ∃ O, O = w.heap.size := ⟨_, rfl⟩
  have hbx : Bxs W O v C := by rw [hW, hO]; exact bxs_new w v C
  have hsz : W.heap.size = O + 3 := by rw [hW, hO]; exact bxs_size w v C
  have hL : Loc B (O + 3) w W v v := by rw [← hsz, hW]; exact Loc.start ok (bxs_below w v C)
  have HW : Hid (((w.alloc (.cells v.cells 29)).alloc (.cells C 68)).alloc (.cells #[.pointer none, .int .i64 0, .int .i64 0, .int .i64 0, .slice none 0 0, .int .i64 0, .slice none 0 0] 29) = W) := hW.symm
  have HO : Hid (w.heap.size = O) := hO.symm
  have HSZ : Hid (W.heap.size = O + 3) := hsz
  have HL : Hid _ := hL
  have HB : Hid _ := hbx
  have c0 := hbx.box.c0
  have ck : W.cell? ⟨O + 1, 0, none⟩ = some (.int .i64 8) := by rw [hC] at hbx; exact hbx.ckd
  have ci : W.cell? ⟨O + 1, 2, none⟩ = some (.int .i64 i) := by rw [hC] at hbx; exact hbx.ci
  have cn : W.cell? ⟨O + 1, 3, none⟩ = some (.int .i64 n) := by rw [hC] at hbx; exact hbx.cn
  have HC : Hid (C = opC 8 two i n oa fl oc) := hC
  have Q1 : Hid _ := drain_u hL.ok
  clear hW hO hsz hL hC ok hbx ci cn
  go_enter Try.func57, Try.ntmps57
  go_upto_region 1 with fail
  rw [HW.out, HO.out]
  go_wp2_with fail
  refine Calls.mono Q1.out ?_
  rintro e w1 ⟨s1, a, c, l, t, rfl, hk, ho1, h256, hp⟩
  have hbx1 := HL.out.boxes HO.out HB.out hp.pl
  have hbox1 := hbx1.box
  have HP : Hid _ := hp
  have HB1 : Hid _ := hbx1
  have Q2 : Hid _ := drainR_u HL.out.ok s1 a c l t hk hp hnow
  have HFAR : Hid (∀ g, a = some ⟨g, 0, none⟩ → W.heap.size ≤ g ∧ ¬ PB v.P v.gb v.gf v.gr v.gt s1 g) := fun g hg => drain_far HL.out.ok hk g hg
  have HO1 : Hid (w1.ownsRow W.heap.size 5 1 (.slice a l.length c) l.length ((toI l).map (Value.int .u8))) := ho1
  have H256 : Hid _ := h256
  obtain ⟨m, hm⟩ : ∃ m, m = l.length := ⟨_, rfl⟩
  rw [← hm] at Q2 HO1 ⊢
  have hm2 : m ≤ 65535 := by
    have h := hk
    rcases h with ⟨_, _, _, _, rfl, _⟩ | ⟨i', _, _, _, _, h2, _, _, rfl, _⟩
    · simp at hm; omega
    · have h3 := HL.out.ok.port.dl i' h2
      have h4 := HL.out.ok.port.sz2
      rw [hm, List.length_take]
      omega
  have HM : Hid (m = l.length) := hm
  clear Q1 hp hbx1 c0 ck hk ho1 h256 hm
  go_wp2_with (first | (refine wpList_load_sr (.tmp 100) rfl O v rfl hbox1 rfl ?_))
  refine Calls.mono Q2.out ?_
  rintro e w2 ⟨r2, a2, c2, rfl, hs2, hf2, nx⟩
  have HL2 : Hid _ := HL.out.go (by rw [HSZ.out]; omega) HP.out nx
  have HB2 : Hid _ := HB1.out.below nx.bel
  have HN2 : Hid _ := nx.now
  have HO2 : Hid (w2.ownsRow W.heap.size 5 1 (.slice a m c) m ((toI l).map (Value.int .u8))) := (Ch.ofBelow (S := fun _ => False) nx.bel).owns HO1.out (fun _ _ => id)
  have HNB : Hid (∀ g, a = some ⟨g, 0, none⟩ → ¬ SV.all { v with s := s1, r := r2 } g) := by
    intro g hg hq
    obtain ⟨f1, f2⟩ := HFAR.out g hg
    have hgl : g < w1.heap.size := (HO1.out.lt g (by rw [hg]; rfl)).2
    have hsz := HSZ.out
    have hold := HL.out.old
    have hO := HO.out
    rcases hq with (hq | hq) | ⟨b, hb, e⟩ | hq
    · exact f2 hq
    · have := hold g (.inl (.inr hq)); omega
    · rcases nx.alr with h1 | h1
      · have := hold g (.inr (.inl ⟨b, by rw [← h1]; exact hb, e⟩)); omega
      · have := h1 b hb; omega
    · rcases nx.dr g hq with h1 | h1
      · have := hold g (.inr (.inr h1)); omega
      · omega
  have HS2 : Hid (Seg .u8 w2 a2 (toI l)) := hs2
  have HF2 : Hid (∀ y, a2 = some y → w1.heap.size ≤ y.block) := hf2
  have HLT1 : Hid (O + 2 < w1.heap.size) := HB1.out.lt
  clear Q2 hbox1 nx hs2 HO1 HFAR hf2
  have hz := pz w2
  go_wp2_with (first | (refine wpList_store_rp (.tmp 17) (.tmp 103) rfl rfl w2.heap.size rz r2 rfl rfl hz rfl ?_))
  intro w3 hR3 k3
  have L3 := HL2.out.put _ rfl k3
  have h0a : Below w2.heap.size w2 (w2.alloc (.cells #[.int .i64 0, .int .i64 0, .int .i64 0, .slice none 0 0, .int .i64 0] 26)) := (Below.refl _ _).alloc (Nat.le_refl _) _
  have hlt2 := HB2.out.lt
  have hbx3 := (HB2.out.below h0a).ch k3 (show ¬ O = w2.heap.size by omega) (show ¬ O + 1 = w2.heap.size by omega) (show ¬ O + 2 = w2.heap.size by omega)
  have hbox3 := hbx3.box
  have HL3 : Hid _ := L3
  have HB3 : Hid _ := hbx3
  have K23 : Hid (Ch (fun q => q = O ∨ w2.heap.size ≤ q) w2 w3) := (Ch.ofBelow (S := fun q => q = O ∨ w2.heap.size ≤ q) h0a).trans k3 (fun q _ e => .inr (by have e' : q = w2.heap.size := e; omega))
  clear L3 h0a hlt2 hbx3 k3 hz
  go_wp2_with (first | (refine wpList_load_rp (.tmp 17) rfl w2.heap.size r2 rfl hR3 rfl ?_) | (refine wpList_store_sr (.tmp 107) (.tmp 106) rfl rfl O v r2 rfl rfl hbox3 rfl ?_))
  intro w4 hbox4 k4
  have L4 := HL3.out.set (X := O) (by have := HO.out; omega) (by omega) k4
  have hop4 := (k4.block (O + 1) (Array.getElem?_eq_some_iff.1 HB3.out.op).1 (show ¬ O + 1 = O by omega)).trans HB3.out.op
  have hres4 := (k4.block (O + 2) (Array.getElem?_eq_some_iff.1 HB3.out.res).1 (show ¬ O + 2 = O by omega)).trans HB3.out.res
  have HL4 : Hid _ := L4
  have K24 : Hid (Ch (fun q => q = O ∨ w2.heap.size ≤ q) w2 w4) := K23.out.trans k4 (fun q _ e => .inl e)
  have HOP4 : Hid _ := hop4
  clear L4 hop4 k4 hbox3 hR3 K23
  obtain ⟨V, hV⟩ : ∃ V : SV, V = { v with r := r2 } := ⟨_, rfl⟩
  rw [← hV] at hbox4
  have HV : Hid (V = { v with r := r2 }) := hV
  clear hV
  have T4 : Hid (Seg .u8 w4 a (toI l) ∧ Seg .u8 w4 a2 (toI l) ∧ w4.ownsRow W.heap.size 5 1 (.slice a m c) m ((toI l).map (Value.int .u8))) := by
    have h1 := HSZ.out
    have h2 := HLT1.out
    have o4 : w4.ownsRow W.heap.size 5 1 (.slice a m c) m ((toI l).map (Value.int .u8)) := K24.out.owns HO2.out (fun g hg e => by
      have h3 := HO2.out.lt g hg
      rcases e with e | e
      · have h4 := h3.1; omega
      · have h4 := h3.2; omega)
    obtain ⟨a', c', e', sg, _⟩ := owns_seg o4
    have ea := (Value.slice.inj e').1
    subst ea
    refine ⟨sg, K24.out.seg HS2.out (fun y hy hya e => ?_), o4⟩
    have h3 := HF2.out y hya
    rcases e with e | e
    · omega
    · rcases HS2.out.lt with h0 | ⟨b0, off, e0, hb0⟩
      · exact hy (List.eq_nil_of_length_eq_zero h0)
      · rw [hya] at e0
        have := Option.some.inj e0
        subst this
        simp only at e hb0
        omega
  have Q3 : Hid _ := alike_any a a2 c c2 l l w4 T4.out.1 T4.out.2.1 H256.out H256.out
  rw [decide_eq_true rfl, ← HM.out] at Q3
  have htt : (t == t) = true := by cases t <;> rfl
  go_wp2_with fail
  refine Calls.mono Q3.out ?_
  rintro e w5 ⟨rfl, rfl⟩
  clear Q3
  have HBX4 : Hid (SdAt w4 O V) := hbox4
  have HRS4 : Hid (w4.heap[O + 2]? = some (.cells zS 29 (0, 0))) := hres4
  clear hbox4 hres4
  go_wp2
  go_loopw [21] (fun ix wr => ∃ (k : Nat) (l' : List Int), k ≤ m ∧ ix = .int .i64 k ∧ Hid (Loc B (O + 3) w wr v { v with s := s1, r := r2 } ∧ SdAt wr O V ∧ wr.heap[O + 2]? = some (.cells zS 29 (0, 0)) ∧ wr.ownsRow W.heap.size 5 1 (.slice a m c) m (l'.map (Value.int .u8)))) (fun ix _ => m - (intOf ix).toNat)
  case atStart => exact ⟨0, toI l, Nat.zero_le _, rfl, HL4.out, HBX4.out, HRS4.out, T4.out.2.2⟩
  case round =>
    obtain ⟨k, l', hk, rfl, ST⟩ := hrel
    clear T4 HL4 HBX4 HRS4
    by_cases hlt : k < m
    · obtain ⟨g, hg, z, cc, ff, NX⟩ := xor_step ST.out.2.2.2 k hlt
      subst hg
      have HNX : Hid _ := NX
      clear NX
      go_wp2
      go_roundw
      case rel =>
        obtain ⟨n1, n2⟩ := HNX.out (.int .u8 (bits .xor .u8 z 255)) _ rfl
        refine ⟨k + 1, _, by omega, by go_num, ST.out.1.free ?_ (HNB.out g rfl) n2, ST.out.2.1.ch n2 ?_, (n2.block (O + 2) (Array.getElem?_eq_some_iff.1 ST.out.2.2.1).1 ?_).trans ST.out.2.2.1, n1⟩
        · have h1 := (ST.out.2.2.2.lt g rfl).1; have := HSZ.out; have := HO.out; omega
        · show ¬ O = g; have h1 := (ST.out.2.2.2.lt g rfl).1; have := HSZ.out; omega
        · show ¬ O + 2 = g; have h1 := (ST.out.2.2.2.lt g rfl).1; have := HSZ.out; omega
      case measure => simp [intOf]; omega
    · have hlt' : ¬ ((k : Int) < (m : Int)) := by omega
      have hboxr := ST.out.2.1
      have hresr := ST.out.2.2.1
      have HLr : Hid _ := ST.out.1
      clear hlt ST
      go_wp2_with (first | (refine wpList_load_sd (.tmp 2) rfl O V rfl hboxr rfl ?_) | (refine wpList_store_sd (.tmp 4) (.tmp 130) rfl rfl (O + 2) zS rfl V rfl rfl hresr rfl ?_))
      intro w5 hR5 k5
      have HR5 : Hid _ := hR5
      have HL5 : Hid _ := HLr.out.set (X := O + 2) (by have := HO.out; omega) (by omega) k5
      clear k5 hR5 hboxr hresr
      go_wp2
      (try simp only [Exit.inBlock, Exit.then])
      refine bodyPost_ret (results_sd_tmp rfl _ _ (O + 2) V rfl HR5.out) rfl ?_
      exact ⟨_, by rw [HV.out]; rfl, HL5.out.fin HN2.out (Nat.le_succ _), rfl⟩
end Go.Proofs.Ythknkfggpdhdbaa
namespace Go.Proofs.Ythknkfggpdhdbaa
open Go.RowKit

section
variable {B : Nat} {x w1 w2 : World} {v : SV} {s1 : PS}
theorem poll_none (h : SideOk B x v) (hf : v.s.filled = 0) :
    Calls Try.prog 20 #[.pointer (some ⟨v.P, 0, none⟩)] x fun e w1 => e = .returned (.tuple #[.int .i64 0, .slice none 0 0, .bool false]) ∧ Pt x w1 v v.s := by
  refine (poll_t h.port h.inv).mono ?_
  rintro e w1 (⟨_, rfl, rfl⟩ | ⟨m, i, b, rest, h1, _⟩)
  · exact ⟨rfl, Pt.none h (Below.refl _ _)⟩
  · omega
theorem pollR_none (h : SideOk B x v) (hf : v.s.filled = 0) (p : Pt x w1 v v.s) (hn : v.r.now + 8192 ≤ 4611686018427387904) :
    Calls Try.prog 65 #[.agg v.r.cells] w1 fun e w2 => ∃ r2, e = .returned (.tuple #[.agg r2.cells, .int .i64 0, .int .i64 0, .bool false]) ∧ Nx w1 w2 v v.s r2 := by
  obtain ⟨r1, a1⟩ := h.refp p.pl
  refine (pollR_any w1 v.r r1 a1 (by omega)).mono ?_
  rintro e w2 hc
  rw [h.twin.fi.first, hf] at hc
  rcases hc with ⟨_, rfl, hb2⟩ | ⟨k, _, _, _, h5, _⟩
  · exact ⟨_, rfl, Nx.same h p hb2⟩
  · have h6 : (-1 : Int) = (k : Int) := h5
    omega
def PolS (s s1 : PS) (N i b : Nat) : Prop := ∃ (m : Nat) (rest : List Nat), s.filled = m + 1 ∧ s.rx = i :: rest ∧ i < s.pool ∧ (s.bb i = some b ∨ (s.bb i = none ∧ N ≤ b)) ∧ s1 = s.polled i b rest m
theorem poll_some (h : SideOk B x v) (hf : 0 < v.s.filled) :
    Calls Try.prog 20 #[.pointer (some ⟨v.P, 0, none⟩)] x fun e w1 => ∃ (s1 : PS) (i b : Nat), e = .returned (.tuple #[.int .i64 i, .slice (some ⟨b, 0, none⟩) (v.s.ln i) (v.s.ln i), .bool true]) ∧ PolS v.s s1 x.heap.size i b ∧ Pt x w1 v s1 := by
  refine (poll_t h.port h.inv).mono ?_
  rintro e w1 (⟨h0, rfl, rfl⟩ | ⟨m, i, b, rest, h1, h2, h3, rfl, h4, hp⟩)
  · omega
  · exact ⟨_, i, b, rfl, ⟨m, rest, h1, h2, h3, h4, rfl⟩, hp, fun j c _ hc => bb_upd h4 j c hc⟩
theorem pollR_some (h : SideOk B x v) {i b : Nat} (hs : PolS v.s s1 x.heap.size i b) (p : Pt x w1 v s1) (hn : v.r.now + 8192 ≤ 4611686018427387904) :
    Calls Try.prog 65 #[.agg v.r.cells] w1 fun e w2 => ∃ r2, e = .returned (.tuple #[.agg r2.cells, .int .i64 i, .int .i64 (v.s.ln i : Nat), .bool true]) ∧ Nx w1 w2 v s1 r2 := by
  obtain ⟨r1, a1⟩ := h.refp p.pl
  obtain ⟨m, rest, h1, h2, h3, h4, rfl⟩ := hs
  refine (pollR_any w1 v.r r1 a1 (by omega)).mono ?_
  rintro e w2 hc
  rw [h.twin.fi.first, h1, h2] at hc
  rcases hc with ⟨h5, _⟩ | ⟨k, g, cl, hk, h5, rfl, ok2, hg, _, hb2⟩
  · have h6 : (i : Int) < 0 := h5
    omega
  · have e3 : k = i := by have h6 : (i : Int) = (k : Int) := h5; omega
    subst e3
    exact ⟨_, by rw [h.twin.len_at hk], Nx.mv ok2 hk hg (h.twin.polled h2 h1 b g cl).2 hb2⟩
theorem take_none (h : SideOk B x v) (hf : v.s.fr = []) :
    Calls Try.prog 51 #[.pointer (some ⟨v.P, 0, none⟩)] x fun e w1 => e = .returned (.tuple #[.int .i64 0, .slice none 0 0, .int .i64 33]) ∧ Pt x w1 v v.s := by
  refine (take_t h.port h.inv).mono ?_
  rintro e w1 (⟨_, rfl, rfl⟩ | ⟨i, b, rest, h1, _⟩)
  · exact ⟨rfl, Pt.none h (Below.refl _ _)⟩
  · rw [hf] at h1; cases h1
theorem takeR_none (h : SideOk B x v) (hf : v.s.fr = []) (p : Pt x w1 v v.s) (hn : v.r.now + 8192 ≤ 4611686018427387904) :
    Calls Try.prog 67 #[.agg v.r.cells] w1 fun e w2 => ∃ r2, e = .returned (.tuple #[.agg r2.cells, .int .i64 0, .int .i64 33]) ∧ Nx w1 w2 v v.s r2 := by
  obtain ⟨r1, a1⟩ := h.refp p.pl
  refine (takeR_any w1 v.r r1 a1 (by omega)).mono ?_
  rintro e w2 hc
  rw [h.twin.fr.first, hf] at hc
  rcases hc with ⟨_, rfl, hb2⟩ | ⟨k, _, _, _, _, _, h5, _⟩
  · exact ⟨_, rfl, Nx.same h p hb2⟩
  · have h6 : (-1 : Int) = (k : Int) := h5
    omega
def TakS (s s1 : PS) (N i b : Nat) : Prop := ∃ rest : List Nat, s.fr = i :: rest ∧ i < s.pool ∧ (s.bb i = some b ∨ (s.bb i = none ∧ N ≤ b)) ∧ s1 = s.taken i b rest
theorem take_some (h : SideOk B x v) (hf : v.s.fr ≠ []) :
    Calls Try.prog 51 #[.pointer (some ⟨v.P, 0, none⟩)] x fun e w1 => ∃ (s1 : PS) (i b : Nat), e = .returned (.tuple #[.int .i64 i, .slice (some ⟨b, 0, none⟩) v.s.size v.s.size, .int .i64 0]) ∧ TakS v.s s1 x.heap.size i b ∧ Pt x w1 v s1 := by
  refine (take_t h.port h.inv).mono ?_
  rintro e w1 (⟨h0, rfl, rfl⟩ | ⟨i, b, rest, h1, h3, rfl, h4, hp⟩)
  · exact absurd h0 hf
  · exact ⟨_, i, b, rfl, ⟨rest, h1, h3, h4, rfl⟩, hp, fun j c _ hc => bb_upd h4 j c hc⟩
theorem takeR_some (h : SideOk B x v) {i b : Nat} (hs : TakS v.s s1 x.heap.size i b) (p : Pt x w1 v s1) (hn : v.r.now + 8192 ≤ 4611686018427387904) :
    Calls Try.prog 67 #[.agg v.r.cells] w1 fun e w2 => ∃ r2, e = .returned (.tuple #[.agg r2.cells, .int .i64 i, .int .i64 0]) ∧ Nx w1 w2 v s1 r2 := by
  obtain ⟨r1, a1⟩ := h.refp p.pl
  obtain ⟨rest, h2, h3, h4, rfl⟩ := hs
  refine (takeR_any w1 v.r r1 a1 (by omega)).mono ?_
  rintro e w2 hc
  rw [h.twin.fr.first, h2] at hc
  rcases hc with ⟨h5, _⟩ | ⟨k, g, cl, g', cl', hk, h5, rfl, ok2, hg, _, hb2⟩
  · have h6 : (i : Int) < 0 := h5
    omega
  · have e3 : k = i := by have h6 : (i : Int) = (k : Int) := h5; omega
    subst e3
    exact ⟨_, rfl, Nx.ptmv ok2 hk hg (fun q hd => absurd rfl hd) (h.twin.taken h2 hk b g cl g' cl').2 hb2⟩
theorem buffer_none (h : SideOk B x v) (i : Int) (he : hE v.s i ≠ 0) :
    Calls Try.prog 52 #[.pointer (some ⟨v.P, 0, none⟩), .int .i64 i] x fun e w1 => e = .returned (.tuple #[.slice none 0 0, .int .i64 (hE v.s i)]) ∧ Pt x w1 v v.s := by
  refine (buffer_t h.port h.inv i).mono ?_
  rintro e w1 (⟨_, rfl, rfl⟩ | ⟨k, b, h1, h2, _⟩)
  · exact ⟨rfl, Pt.none h (Below.refl _ _)⟩
  · exact absurd h2 he
def BufS (s s1 : PS) (N k b : Nat) : Prop := k < s.pool ∧ (s.bb k = some b ∨ (s.bb k = none ∧ N ≤ b)) ∧ s1 = { s with bb := updF s.bb k (some b) }
theorem buffer_some (h : SideOk B x v) (i : Int) (he : hE v.s i = 0) :
    Calls Try.prog 52 #[.pointer (some ⟨v.P, 0, none⟩), .int .i64 i] x fun e w1 => ∃ (s1 : PS) (k b : Nat), i = (k : Int) ∧ e = .returned (.tuple #[.slice (some ⟨b, 0, none⟩) v.s.size v.s.size, .int .i64 0]) ∧ BufS v.s s1 x.heap.size k b ∧ Pt x w1 v s1 := by
  refine (buffer_t h.port h.inv i).mono ?_
  rintro e w1 (⟨h1, rfl, rfl⟩ | ⟨k, b, h1, h2, h3, h4, rfl, h5, hp⟩)
  · exact absurd he h1
  · exact ⟨_, k, b, h1, rfl, ⟨h3, h5, rfl⟩, hp, fun j c _ hc => bb_upd h5 j c hc⟩
theorem bufferR_u (h : SideOk B x v) (i : Int) (p : Pt x w1 v s1) (tw : TwinR s1 v.r) :
    Calls Try.prog 68 #[.agg v.r.cells, .int .i64 i] w1 fun e w2 => e = .returned (.int .i64 (hE v.s i)) ∧ Nx w1 w2 v s1 v.r := by
  obtain ⟨r1, a1⟩ := h.refp p.pl
  refine (bufferR_any w1 v.r r1 i).mono ?_
  rintro e w2 ⟨rfl, hb⟩
  rw [h.twin.bE]
  exact ⟨rfl, tw, r1.old hb, fun a ha => Nat.lt_of_lt_of_le (a1 a ha) hb.size, .inl rfl, fun _ h => .inl h, by omega, hb⟩
theorem TwinR.bbs {s : PS} {r : RV} (h : TwinR s r) (bb : Nat → Option Nat) : TwinR { s with bb := bb } r := ⟨h.len, h.rx, h.tx, h.size, h.pl, h.ln, h.da, h.fr, h.po, h.fi, h.qu, h.now⟩
/-- a window that is answered holds what the buffer holds -/
theorem SideOk.win (h : SideOk B x v) {i b n : Nat} (hi : i < v.s.pool) (hb : v.s.bb i = some b) (hn : n ≤ v.s.size) : ∃ (hl : i < v.r.L.length) (d : List Nat), d.length = n ∧ n ≤ 65535 ∧ Seg .u8 x (some ⟨b, 0, none⟩) (toI d) ∧ d = bp (v.r.L[i]'hl).d n ∧ ∀ y ∈ d, y < 256 := by
  have hl : i < v.r.L.length := by rw [h.twin.len]; exact hi
  refine ⟨hl, (v.s.da i).take n, ?_, ?_, ?_, h.bytes hl n hn, fun y hy => h.port.d256 i hi y (List.mem_of_mem_take hy)⟩
  · rw [List.length_take, h.port.dl i hi]; omega
  · have := h.port.sz2; omega
  · obtain ⟨a, c, e, sg, _⟩ := owns_seg (h.port.row i b hi hb)
    have ea := (Value.slice.inj e).1
    subst ea
    have := sg.part0 n (by rw [toI_len, h.port.dl i hi]; exact hn)
    rwa [toI_take] at this
end
theorem append_splitK {P : Program} {w : World} {ops : Array Oper} {rest : List Oper} {o : Oper} {a : Act} {Q : Exit → Act → World → Prop} (sz : Nat) (hsz : 0 < sz) (hgd : o.guard = none) (s x : Operand) (t : TypeId)
    (ho : o.op = .call { callee := .builtin .append, args := #[s, x], argTypes := #[t, t] })
    (base : Nat) (e : TypeId) (i : TypeInfo) (z : Value) (bytes : Nat) (ht : P.underlying t = some (.slice e)) (hi : P.info? e = some i) (hz : i.zero = some z)
    (hsize : i.size = sz) (hby : i.bytes = bytes) (hzs : z.cells.size = sz)
    (v : Value) (n : Nat) (xs : List Value) (hs : a.eval s = v) (hown : w.ownsRow base e sz v n xs)
    (ad : Addr) (m c : Nat) (news : List Value) (hx : a.eval x = .slice (some ad) m c) (hl : news.length = m * sz) (hnews : ∀ j u, news[j]? = some u → w.cell? (ad.add j) = some u) (h1 : ∀ u ∈ news, u.oneCell' = true)
    (h63 : n + m ≤ maxLen) (hbytes : (n + m) * bytes ≤ 140737488355328) (hbase : base ≤ w.heap.size)
    (h : ∀ v' w', w'.ownsRow base e sz v' (n + m) (xs ++ news) → ((w.grownBy w' none ∧ ∀ q, v'.ownBlock = some q → w.heap.size ≤ q) ∨ (w.grownBy w' v.ownBlock ∧ v'.ownBlock = v.ownBlock ∧ v.ownBlock ≠ none)) → wpList P ops Q rest (a.put o.dst v') w') : wpList P ops Q (o :: rest) a w := by
  rcases hown.2 with ⟨rfl, rfl⟩ | ⟨g, cap, cur, rfl, hbg, hg, hnc, hcm, hcs, htake⟩
  · have hx0 : xs = [] := List.eq_nil_of_length_eq_zero (by have := hown.1; simpa using this)
    subst hx0
    refine wpList_append_own_at w hgd s x t ho w.heap.size e i z sz bytes ht hi hz hsize hby hzs hsz (.slice none 0 0) 0 [] hs (World.ownsRow_nil _ _ _ _) ad m c news hx hl hnews h1 h63 hbytes (Nat.le_refl _) ?_
    intro v' w' r1 r2 _ _
    exact h v' w' (owns_mono r1 hbase) (.inl ⟨r2, fun q hq => (r1.lt q hq).1⟩)
  · by_cases hroom : n + m ≤ cap
    · refine wpList_append_own_spare w hgd s x t ho base e i sz ht hi hsize g n cap xs hs hown ad m c news hx hl hnews h1 hroom ?_
      intro w' r1 r2
      exact h _ w' r1 (.inr ⟨r2, rfl, by simp [Value.ownBlock]⟩)
    · refine wpList_plain hgd fun K hK => ?_
      obtain ⟨v', w', hrun, r1, r2⟩ := run_append_arg_grows (P := P) w t o.type e i z sz bytes ht hi hz hsize hby hzs hsz ⟨g, 0, none⟩ n cap xs hown.1 (hown.cells rfl) ad m c news hl hnews (by omega) h63 hbytes
      unfold Oper.wp
      simp [execOp, ho, resolve, invoke, builtin, hs, hx, hrun, Result.andThen]
      exact hK _ _ (h v' w' (owns_mono r1 hbase) (.inl ⟨r2, fun q hq => (r1.lt q hq).1⟩))
theorem Try.infoWin : (Try.prog.info? 117).map (fun i => (i.zero, i.size, i.bytes)) = some (some (.agg #[.slice none 0 0, .int .i64 0]), 2, 32) := by kernel_rfl
/-- a window more -/
theorem Loc.addW {B F : Nat} {w x x' : World} {v v' : SV} {u : Value} {b n i : Nat} {o : Obj} (h : Loc B F w x v v') (hWv : v'.wa = v.wa ∧ v'.W = v.W ∧ v'.wc = v.wc) (hF : F ≤ x.heap.size) (hi : i < v'.s.pool) (hb : v'.s.bb i = some b) (hn : n ≤ v'.s.size)
    (ho : x'.ownsRow B 117 2 u (v'.W.length + 1) (v'.W.flatMap WV.cells ++ [.slice (some ⟨b, 0, none⟩) n n, .int .i64 i]))
    (hg : ((x.alloc o).grownBy x' none ∧ ∀ q, u.ownBlock = some q → x.heap.size + 1 ≤ q) ∨ ((x.alloc o).grownBy x' (Value.slice v'.wa v'.W.length v'.wc).ownBlock ∧ u.ownBlock = (Value.slice v'.wa v'.W.length v'.wc).ownBlock ∧ ¬ (Value.slice v'.wa v'.W.length v'.wc).ownBlock = none)) :
    ∃ wa wc, u = .slice wa (v'.W ++ [WV.mk b n i]).length wc ∧ Loc B F w x' v { v' with wa := wa, wc := wc, W := v'.W ++ [WV.mk b n i] } ∧ Ch (fun q => v'.wb q ∨ x.heap.size ≤ q) x x' := by
  obtain ⟨wa, wc, rfl⟩ := owns_shape ho
  have e1 : (v'.W ++ [WV.mk b n i]).length = v'.W.length + 1 := by simp
  have e2 : (v'.W ++ [WV.mk b n i]).flatMap WV.cells = v'.W.flatMap WV.cells ++ [.slice (some ⟨b, 0, none⟩) n n, .int .i64 i] := by simp [WV.cells]
  have hA : Below x.heap.size x (x.alloc o) := (Below.refl _ _).alloc (Nat.le_refl _) _
  have hsA : (x.alloc o).heap.size = x.heap.size + 1 := by simp
  have kk : Ch (fun q => v'.wb q ∨ x.heap.size ≤ q) x x' := by
    refine (Ch.ofBelow (S := fun q => v'.wb q ∨ x.heap.size ≤ q) hA).trans (T := fun q => v'.wb q) ?_ (fun q _ e => .inl e)
    rcases hg with ⟨g, _⟩ | ⟨g, _⟩
    · exact (Ch.ofGrown g).mono (fun q _ e => by cases e)
    · exact (Ch.ofGrown g).mono (fun q _ e => e)
  have hnb : ∀ q, SV.wb { v' with wa := wa, wc := wc, W := v'.W ++ [WV.mk b n i] } q → v'.wb q ∨ x.heap.size ≤ q := by
    intro q hq
    have hq' : (Value.slice wa (v'.W.length + 1) wc).ownBlock = some q := by rw [← e1]; exact hq
    rcases hg with ⟨_, g⟩ | ⟨_, g, _⟩
    · exact .inr (by have := g q hq'; omega)
    · exact .inl (by rw [g] at hq'; exact hq')
  have hlt := h.ok.lt
  have hwb : ∀ q, v'.wb q → v.wb q := fun q hq => by
    unfold SV.wb at hq ⊢
    rw [← hWv.1, ← hWv.2.1, ← hWv.2.2]; exact hq
  have hsplit : ∀ q, SV.all { v' with wa := wa, wc := wc, W := v'.W ++ [WV.mk b n i] } q → v'.all q ∨ x.heap.size ≤ q := by
    rintro q ((hq | hq) | hq)
    · exact .inl (.inl (.inl hq))
    · exact (hnb q hq).imp (fun e => .inl (.inr e)) id
    · exact .inl (.inr hq)
  have hBx : B ≤ x.heap.size := Nat.le_trans (h.ok.old v'.P (.inl (.inl (.inl rfl)))) (Nat.le_of_lt (hlt v'.P (.inl (.inl (.inl rfl)))))
  have npb : ∀ q, v'.pb q → ¬ (v'.wb q ∨ x.heap.size ≤ q) := fun q hq e => by
    rcases e with e | e
    · exact h.ok.dw q e hq
    · have := hlt q (.inl (.inl hq)); omega
  have ndb : ∀ q, v'.db q → ¬ (v'.wb q ∨ x.heap.size ≤ q) := fun q hq e => by
    rcases e with e | e
    · exact h.ok.dd q hq (.inr e)
    · have := hlt q (.inr hq); omega
  refine ⟨wa, wc, by rw [e1], ⟨⟨?_, h.ok.inv, h.ok.twin, ?_, ?_, ?_, ?_, ?_, ?_, ?_⟩, ?_, ?_, h.old, h.hF⟩, kk⟩
  · exact h.ok.port.ch kk npb
  · exact h.ok.ref.ch kk (fun a ha => ndb a.block (.inl ⟨a, ha, rfl⟩)) (fun q hq => ndb q (.inr hq))
  · exact fun a ha => Nat.lt_of_lt_of_le (h.ok.alr a ha) kk.size
  · show x'.ownsRow B _ 2 (.slice wa (v'.W ++ [WV.mk b n i]).length wc) (v'.W ++ [WV.mk b n i]).length ((v'.W ++ [WV.mk b n i]).flatMap WV.cells)
    rw [e1, e2]; exact ho
  · intro y hy
    rcases List.mem_append.1 hy with h1 | h1
    · exact h.ok.wins y h1
    · have e3 : y = WV.mk b n i := by simpa using h1
      subst e3
      exact ⟨hi, hb, hn⟩
  · intro q hq
    rcases hsplit q hq with h1 | h1
    · exact h.ok.old q h1
    · omega
  · intro q hq hp
    have hp' : v'.pb q := hp
    exact npb q hp' (hnb q hq)
  · intro q hq hp
    have hq' : v'.db q := hq
    rcases hp with hp | hp
    · exact h.ok.dd q hq' (.inl hp)
    · exact ndb q hq' (hnb q hp)
  · refine h.ch.trans kk (fun q hq e => ?_)
    rcases e with e | e
    · exact .inr (hwb q e)
    · have := h.ch.size; omega
  · intro q hq
    rcases hsplit q hq with h1 | h1
    · exact h.new q h1
    · exact .inr (by omega)
end Go.Proofs.Ythknkfggpdhdbaa
