/-
  weirref4: a prefix; ValidPrefix, Contains.
-/
import Derived.Test.YtclpeepnngegaaaDoorR4c
import Derived.Test.YtclpeepnngegaaaDoorFlFn1
namespace Go.Proofs.YtclpeepnngegaaaDoor
open Go.RowKit Go.Maps

structure PV where
  V : Int
  x : Nat → Nat
  n : Int
def pfC (p : PV) : Array Value := #[.int .i64 p.V, .int .u8 (p.x 0 : Nat), .int .u8 (p.x 1 : Nat), .int .u8 (p.x 2 : Nat), .int .u8 (p.x 3 : Nat), .int .u8 (p.x 4 : Nat), .int .u8 (p.x 5 : Nat), .int .u8 (p.x 6 : Nat), .int .u8 (p.x 7 : Nat), .int .u8 (p.x 8 : Nat), .int .u8 (p.x 9 : Nat), .int .u8 (p.x 10 : Nat), .int .u8 (p.x 11 : Nat), .int .u8 (p.x 12 : Nat), .int .u8 (p.x 13 : Nat), .int .u8 (p.x 14 : Nat), .int .u8 (p.x 15 : Nat), .int .i64 p.n]
def pv0 : PV := ⟨0, fun _ => 0, 0⟩
theorem Tryd.size_pfx : (Tryd.prog.info? 114).map (·.size) = some 18 := by kernel_rfl
def PfxAt (w : World) (O : Nat) (pv : PV) : Prop := w.heap[O]? = some (.cells (pfC pv) 114 (0, 0))
section
variable {w : World} {O : Nat} {pv : PV} (k : PfxAt w O pv)
include k
theorem PfxAt.lt : O < w.heap.size := (Array.getElem?_eq_some_iff.1 k).1
theorem PfxAt.ch {S : Nat → Prop} {w' : World} (c : Ch S w w') (hS : ¬ S O) : PfxAt w' O pv := (c.block O k.lt hS).trans k
theorem PfxAt.below {w' : World} (c : Below w.heap.size w w') : PfxAt w' O pv := (c.block O k.lt).trans k
theorem PfxAt.cell (i : Nat) : w.cell? ⟨O, i, none⟩ = (pfC pv)[i]? := by unfold PfxAt at k; simp [World.cell?, k]
theorem PfxAt.fz (j : Nat) : w.frozen? ⟨O, j, none⟩ = false := by unfold PfxAt at k; simp [World.frozen?, k]
theorem PfxAt.range (o n : Nat) : w.rangeAt O o (((pfC pv).extract o (o + n)).toList) := World.rangeAt_of_block k o n
end
theorem pfx_new (w : World) (pv : PV) : PfxAt (w.alloc (.cells (pfC pv) 114)) w.heap.size pv := heap_alloc_new _ _
theorem wpList_load_pfx {ops : Array Oper} {rest : List Oper} {o : Oper} {a : Act} {w : World} {Q : Exit → Act → World → Prop} (x : Operand) (ho : o.op = .load 114 x) (O : Nat) (pv : PV) (hx : a.eval x = .pointer (some ⟨O, 0, none⟩)) (hb : PfxAt w O pv)
    (hw : Region.wanted o (yielded ops a.tmps) = true) (hh : wpList Tryd.prog ops Q rest (a.put o.dst (.agg (pfC pv))) w) : wpList Tryd.prog ops Q (o :: rest) a w := by
  refine wpList_step fun K hK => ?_
  rw [if_pos hw]
  exact wp_load_row 114 x ho O hx _ _ _ _ hb Tryd.underlying114 rfl Tryd.size_pfx (hK _ _ hh)
theorem wpList_store_pfx {ops : Array Oper} {rest : List Oper} {o : Oper} {a : Act} {w : World} {Q : Exit → Act → World → Prop} (x y : Operand) (ho : o.op = .store 114 x y) (hd : o.dst = none) (O : Nat) (pv : PV) (pv' : PV) (hx : a.eval x = .pointer (some ⟨O, 0, none⟩)) (hy : a.eval y = .agg (pfC pv')) (hb : PfxAt w O pv)
    (hw : Region.wanted o (yielded ops a.tmps) = true) (hh : ∀ w', PfxAt w' O pv' → Ch (fun q => q = O) w w' → wpList Tryd.prog ops Q rest a w') : wpList Tryd.prog ops Q (o :: rest) a w := by
  refine wpList_step fun K hK => ?_
  rw [if_pos hw]
  refine wp_store_row 114 x y ho O (pfC pv') hx hy _ (pfC pv) hb Tryd.size_pfx rfl (by simp [pfC, Value.oneCell']) (hK _ _ ?_)
  rw [hd]
  refine hh _ (setRow_heap w O _ _ _ _ hb) ⟨rfl, rfl, rfl, ?_, ?_⟩
  · simp [World.setRow]
  · intro k hk hne
    simp only [World.setRow]
    rw [Array.getElem?_modify, if_neg (fun e => hne e.symm)]
theorem wpList_alloc_pfx {ops : Array Oper} {rest : List Oper} {o : Oper} {a : Act} {w : World} {Q : Exit → Act → World → Prop} (ho : o.op = .alloc 114) (hw : Region.wanted o (yielded ops a.tmps) = true)
    (h : wpList Tryd.prog ops Q rest (a.put o.dst (.pointer (some ⟨w.heap.size, 0, none⟩))) (w.alloc (.cells (pfC pv0) 114))) : wpList Tryd.prog ops Q (o :: rest) a w := by
  refine wpList_step fun K hK => ?_
  rw [if_pos hw]
  have hrun : (execOp a.eval o).run Tryd.prog w = .ok (.value (.pointer (some ⟨w.heap.size, 0, none⟩))) (w.alloc (.cells (pfC pv0) 114)) := by
    obtain ⟨dst, op, type, pos, after, guard⟩ := o
    simp only at ho
    subst ho
    simp only [execOp]
    go_simp
    rfl
  unfold Oper.wp
  rw [hrun]
  exact hK _ _ h
theorem yields_pfx {ops : Array Oper} {o : Oper} {a : Act} {S : World → Prop} (x : Operand) (ho : o.op = .load 114 x) (O off : Nat) (pv : PV) (hx : a.eval x = .pointer (some ⟨O, off, none⟩)) (hw : Region.wanted o (yielded ops a.tmps) = true) (hS : ∀ w, S w → w.rangeAt O off (pfC pv).toList) : YieldsIf Tryd.prog ops S o (.agg (pfC pv)) a :=
  yieldsIf_load_mid hw 114 x ho O off hx (pfC pv).toList _ hS Tryd.underlying114 rfl Tryd.size_pfx
theorem wpList_mid_pfx {ops : Array Oper} {rest : List Oper} {o : Oper} {a : Act} {w : World} {Q : Exit → Act → World → Prop} (x : Operand) (ho : o.op = .load 114 x) (O off : Nat) (pv : PV) (hx : a.eval x = .pointer (some ⟨O, off, none⟩)) (hb : w.rangeAt O off (pfC pv).toList)
    (hw : Region.wanted o (yielded ops a.tmps) = true) (h : wpList Tryd.prog ops Q rest (a.put o.dst (.agg (pfC pv))) w) : wpList Tryd.prog ops Q (o :: rest) a w := by
  refine wpList_step fun K hK => ?_
  rw [if_pos hw]
  exact wp_load_mid 114 x ho O off hx (pfC pv).toList _ hb Tryd.underlying114 rfl Tryd.size_pfx (hK _ _ h)
theorem results_pfx {fn : Func} {p : Tmp} (h : fn.results = #[.cell p 114]) (tmps : Array Value) (w : World) (O : Nat) (pv : PV) (hp : tmps.getD p undef = .pointer (some ⟨O, 0, none⟩)) (hb : PfxAt w O pv) :
    (results fn tmps).run Tryd.prog w = .ok (.agg (pfC pv)) w :=
  results_cell_row h tmps w O _ (pfC pv) _ _ hp hb Tryd.underlying114 rfl Tryd.size_pfx
theorem PfxAt.len {w : World} {O : Nat} {p : PV} (h : PfxAt w O p) : w.cell? ⟨O, 17, none⟩ = some (.int .i64 p.n) := h.cell 17
theorem PfxAt.ver {w : World} {O : Nat} {p : PV} (h : PfxAt w O p) : w.cell? ⟨O, 0, none⟩ = some (.int .i64 p.V) := h.cell 0
theorem PfxAt.ip {w : World} {O : Nat} {p : PV} (h : PfxAt w O p) : w.rangeAt O 0 (ipCells p.V p.x).toList := by
  intro j v hj
  rw [h.cell]
  have hl : j < 17 := (List.getElem?_eq_some_iff.1 hj).1
  have : j = 0 ∨ j = 1 ∨ j = 2 ∨ j = 3 ∨ j = 4 ∨ j = 5 ∨ j = 6 ∨ j = 7 ∨ j = 8 ∨ j = 9 ∨ j = 10 ∨ j = 11 ∨ j = 12 ∨ j = 13 ∨ j = 14 ∨ j = 15 ∨ j = 16 := by omega
  clear hl
  rcases this with rfl | rfl | rfl | rfl | rfl | rfl | rfl | rfl | rfl | rfl | rfl | rfl | rfl | rfl | rfl | rfl | rfl <;> exact hj
/-- the error of a prefix -/
def vpR (p : PV) : Nat := if vR p.V p.x then (if decide (p.n < 0) || decide ((wdN p.V : Int) < p.n) then 45 else if (List.range (wdN p.V)).any fun i => decide (p.n ≤ (i : Int)) && btN p.x i == 1 then 46 else 0) else 40
theorem wdN_le (V : Int) : wdN V ≤ 128 := by unfold wdN; split <;> omega
set_option maxHeartbeats 1600000 in
set_option maxRecDepth 100000 in
theorem validPrefixR_any (p : PV) (w : World) (hx : ∀ i, i < 16 → p.x i < 256) : Calls Tryd.prog 79 #[.agg (pfC p)] w fun r w' => r = .returned (.int .i64 (vpR p : Nat)) ∧ Below w.heap.size w w' := by
  have hb := pfx_new w p
  have bel : Below w.heap.size w (w.alloc (.cells (pfC p) 114)) := (Below.refl _ _).alloc (Nat.le_refl _) _
  obtain ⟨CX, hC⟩ : ∃ C, C = pfC p := ⟨_, rfl⟩
  obtain ⟨W, hW⟩ : ∃ W_, W_ = w.alloc (.cells (pfC p) 114) := ⟨_, rfl⟩
  rw [← hW] at hb bel
  have HSZX : Hid (W.heap.size = w.heap.size + 1) := by show _ = _; rw [hW, World.size_alloc]
  obtain ⟨B, hB⟩ : ∃ B, B = w.heap.size := ⟨_, rfl⟩
  rw [← hB] at hb
  have HBX : Hid (PfxAt W B p) := hb
  rw [← hC] at hW ⊢
  have HOX : Hid (w.heap.size = B) := hB.symm
  have HLX : Hid (Below w.heap.size w W) := bel
  have HWX : Hid (w.alloc (.cells CX 114) = W) := hW.symm
  clear hb hW hB hC bel
  have HX : Hid (∀ i, i < 16 → p.x i < 256) := hx
  clear hx
  obtain ⟨b, hb⟩ : ∃ b, vR p.V p.x = b := ⟨_, rfl⟩
  have HB : Hid (vR p.V p.x = b) := hb
  clear hb
  go_enter Tryd.func79, Tryd.ntmps79
  go_wp2_with (first | (rw [HOX.out, HWX.out]) | (refine wpList_mid_ipr (.tmp 6) rfl B 0 p.V p.x rfl HBX.out.ip rfl ?_))
  refine (validR_any p.V p.x W).mono ?_
  rintro e w1 ⟨rfl, b1⟩
  rw [HB.out]
  have H1 : Hid (PfxAt w1 B p ∧ Below w.heap.size w w1) := ⟨HBX.out.below b1, bthen HLX.out b1⟩
  clear b1
  cases b with
  | false =>
    have HR : Hid (vpR p = 40) := by show _ = _; unfold vpR; rw [HB.out]; rfl
    go_wp2_with fail
    go_ret
    exact ⟨by rw [HR.out]; rfl, H1.out.2⟩
  | true =>
    go_wp2_with (first | (refine wpList_mid_ipr (.tmp 11) rfl B 0 p.V p.x rfl H1.out.1.ip rfl ?_))
    refine (width_any p.V p.x w1).mono ?_
    rintro e w2 ⟨rfl, b2⟩
    have H2 : Hid (PfxAt w2 B p ∧ Below w.heap.size w w2) := ⟨H1.out.1.below b2, bthen H1.out.2 b2⟩
    clear b2 H1
    obtain ⟨wd, hwd⟩ : ∃ wd, wdN p.V = wd := ⟨_, rfl⟩
    have HWD : Hid (wdN p.V = wd) := hwd
    have HW8 : Hid (wd ≤ 128) := by show wd ≤ 128; rw [← hwd]; exact wdN_le _
    rw [hwd]
    clear hwd
    have c17 := H2.out.1.len
    obtain ⟨n, hn⟩ : ∃ n, p.n = n := ⟨_, rfl⟩
    have HN : Hid (p.n = n) := hn
    rw [hn] at c17
    clear hn
    by_cases h1 : n < 0
    · have q1 : decide (n < 0) = true := decide_eq_true h1
      have HR : Hid (vpR p = 45) := by show _ = _; unfold vpR; rw [HB.out, HN.out, q1]; rfl
      clear h1
      go_wp2
      go_ret
      exact ⟨by rw [HR.out]; rfl, H2.out.2⟩
    · have q1 : decide (n < 0) = false := decide_eq_false h1
      by_cases h2 : (wd : Int) < n
      · have q2 : decide ((wd : Int) < n) = true := decide_eq_true h2
        have HR : Hid (vpR p = 45) := by show _ = _; unfold vpR; rw [HB.out, HN.out, HWD.out, q1, q2]; rfl
        clear h1 h2
        go_wp2
        go_ret
        exact ⟨by rw [HR.out]; rfl, H2.out.2⟩
      · have q2 : decide ((wd : Int) < n) = false := decide_eq_false h2
        obtain ⟨m, hm⟩ : ∃ m : Nat, n = (m : Int) := ⟨n.toNat, by omega⟩
        subst hm
        have HR : Hid (vpR p = if (List.range wd).any fun i => decide ((m : Int) ≤ (i : Int)) && btN p.x i == 1 then 46 else 0) := by show _ = _; unfold vpR; rw [HB.out, HN.out, HWD.out, q1, q2]; rfl
        have HM : Hid (m ≤ wd) := by show m ≤ wd; omega
        have q3 : decide (wd < m) = false := decide_eq_false (by have := HM.out; omega)
        clear h1 h2
        go_wp2
        go_loopw [5] (fun ix wr => ∃ k : Nat, m ≤ k ∧ k ≤ wd ∧ ix = .int .i64 (k : Nat) ∧ (∀ i, m ≤ i → i < k → btN p.x i ≠ 1) ∧ Hid (PfxAt wr B p ∧ Below w.heap.size w wr)) (fun ix _ => wd - (intOf ix).toNat)
        case atStart => exact ⟨m, Nat.le_refl _, HM.out, rfl, fun i h1 h2 => by omega, H2.out⟩
        case round =>
          obtain ⟨k, hk1, hk2, rfl, hN, H3⟩ := hrel
          have HNK : Hid (∀ i, m ≤ i → i < k → btN p.x i ≠ 1) := hN
          have HK : Hid (m ≤ k ∧ k ≤ wd) := ⟨hk1, hk2⟩
          clear hN hk1 hk2 c17
          by_cases hlt : k < wd
          · have p1 : decide ((k : Int) < (wd : Int)) = true := decide_eq_true (by omega)
            have p0 : decide (k < wd) = true := decide_eq_true hlt
            have w1 : IntKind.i64.wrap ((k : Int) + 1) = (k : Int) + 1 := i64_s _ (by omega) (by have := HW8.out; omega)
            have HLT : Hid (k < wd) := hlt
            clear hlt
            go_wp2_with (refine wpList_mid_ipr (.tmp 30) rfl B 0 p.V p.x rfl H3.out.1.ip rfl ?_)
            refine (bit_any p.V p.x k wr (by have h1 := HLT.out; have h2 := HW8.out; omega) HX.out).mono ?_
            rintro e w4 ⟨rfl, b4⟩
            have H4 : Hid (PfxAt w4 B p ∧ Below w.heap.size w w4) := ⟨H3.out.1.below b4, bthen H3.out.2 b4⟩
            clear b4 H3
            by_cases he : btN p.x k = 1
            · have qe : (((btN p.x k : Nat) : Int) == 1) = true := by simp [he]
              have HZ : Hid (vpR p = 46) := by
                show _ = _
                rw [HR.out, if_pos]
                rw [List.any_eq_true]
                exact ⟨k, List.mem_range.2 HLT.out, by have := HK.out; simp [he]; omega⟩
              clear he
              go_wp2
              go_ret
              exact ⟨by rw [HZ.out]; rfl, H4.out.2⟩
            · have qe : (((btN p.x k : Nat) : Int) == 1) = false := by simp; omega
              have HE : Hid (btN p.x k ≠ 1) := he
              clear he
              go_wp2
              go_roundw
              case rel => exact ⟨k + 1, by have := HK.out; omega, HLT.out, by simp, fun i h1 h2 => if h : i = k then h ▸ HE.out else HNK.out i h1 (by omega), H4.out⟩
              case measure => have := HLT.out; simp [intOf]; omega
          · have p1 : decide ((k : Int) < (wd : Int)) = false := decide_eq_false (by omega)
            have p0 : decide (k < wd) = false := decide_eq_false hlt
            have HZ : Hid (vpR p = 0) := by
              show _ = _
              rw [HR.out, if_neg]
              rw [Bool.not_eq_true, List.any_eq_false]
              intro i hi
              have h1 := List.mem_range.1 hi
              by_cases h2 : m ≤ i
              · simp [HNK.out i h2 (by omega)]
              · simp; omega
            clear hlt
            go_wp2
            go_ret
            exact ⟨by rw [HZ.out]; rfl, H3.out.2⟩
end Go.Proofs.YtclpeepnngegaaaDoor
