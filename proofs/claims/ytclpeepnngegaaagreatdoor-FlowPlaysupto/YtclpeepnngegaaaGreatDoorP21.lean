/-
  R4c R4d R4e: lemmas of the proof of FlowPlays, and walks through the functions that it calls.
-/
import Derived.Test.YtclpeepnngegaaaGreatDoorP00
import Derived.Test.YtclpeepnngegaaaGreatDoorP03
import Derived.Test.YtclpeepnngegaaaGreatDoorP05
import Derived.Test.YtclpeepnngegaaaGreatDoorP16
namespace Go.Proofs.YtclpeepnngegaaaGreatDoor
open Go.RowKit Go.Maps
theorem ip_byte (V : Int) (x : Nat → Nat) (k : Nat) (h : k < 16) : (ipCells V x)[k + 1]? = some (.int .u8 (x k : Nat)) := by
 have : k = 0 ∨ k = 1 ∨ k = 2 ∨ k = 3 ∨ k = 4 ∨ k = 5 ∨ k = 6 ∨ k = 7 ∨ k = 8 ∨ k = 9 ∨ k = 10 ∨ k = 11 ∨ k = 12 ∨ k = 13 ∨ k = 14 ∨ k = 15 := by omega
 rcases this with rfl | rfl | rfl | rfl | rfl | rfl | rfl | rfl | rfl | rfl | rfl | rfl | rfl | rfl | rfl | rfl <;> rfl
theorem IprAt.byte {w : World} {O : Nat} {V : Int} {x : Nat → Nat} (h : IprAt w O V x) (k : Nat) (hk : k < 16) : w.cell? ⟨O, 1 + k, none⟩ = some (.int .u8 (x k : Nat)) := by
 rw [Nat.add_comm]; exact (h.cell (k + 1)).trans (ip_byte V x k hk)
theorem IprAt.ver {w : World} {O : Nat} {V : Int} {x : Nat → Nat} (h : IprAt w O V x) : w.cell? ⟨O, 0, none⟩ = some (.int .i64 V) := h.cell 0
def vR (V : Int) (x : Nat → Nat) : Bool := if V == 4 then (List.range 12).all fun i => x (4 + i) == 0 else V == 6
theorem vR_no {x : Nat → Nat} {k : Nat} (h1 : 4 ≤ k) (h2 : k < 16) (h : x k ≠ 0) : ((List.range 12).all fun i => x (4 + i) == 0) = false := by
 rw [List.all_eq_false]
 exact ⟨k - 4, List.mem_range.2 (by omega), by rw [show 4 + (k - 4) = k by omega]; simp [h]⟩
theorem vR_yes {x : Nat → Nat} (h : ∀ i, 4 ≤ i → i < 16 → x i = 0) : ((List.range 12).all fun i => x (4 + i) == 0) = true := by
 rw [List.all_eq_true]
 intro i hi
 have := List.mem_range.1 hi
 simp [h (4 + i) (by omega) (by omega)]
set_option maxHeartbeats 1600000 in
set_option maxRecDepth 100000 in
theorem validR_any (V : Int) (x : Nat → Nat) (w : World) : Calls Tryz.prog 45 #[.agg (ipCells V x)] w fun r w' => r = .returned (.bool (vR V x)) ∧ Below w.heap.size w w' := by
 obtain ⟨W, B, HSZX, HOX, HLX, HWX, hb⟩ := zBx w (ipCells V x) 24
 have HBX : Hid (IprAt W B V x) := hb
 obtain ⟨CX, hC⟩ : ∃ C, C = ipCells V x := ⟨_, rfl⟩
 rw [← hC] at HWX ⊢
 clear hb hC
 have c0 := HBX.out.ver
 go_enter Tryz.func45, Tryz.ntmps45
 by_cases h4 : V = 4
 · subst h4
   go_wp2_with (rw [HOX.out, HWX.out])
   go_loopw [3] (fun ix wr => ∃ k : Nat, 4 ≤ k ∧ k ≤ 16 ∧ ix = .int .i64 (k : Nat) ∧ (∀ i, 4 ≤ i → i < k → x i = 0) ∧ W = wr) (fun ix _ => 16 - (intOf ix).toNat)
   case atStart => exact ⟨4, by omega, by omega, rfl, fun i h1 h2 => by omega, rfl⟩
   case round =>
    obtain ⟨k, hk1, hk2, rfl, hN, rfl⟩ := hrel
    have HN : Hid (∀ i, 4 ≤ i → i < k → x i = 0) := hN
    have HK : Hid (4 ≤ k) := hk1
    clear hN hk1
    by_cases hlt : k < 16
    · have q1 : decide ((k : Int) < 16) = true := decide_eq_true (by omega)
      have l1 : (k : Int) < 16 := by omega
      have w1 : IntKind.i64.wrap ((k : Int) + 1) = (k : Int) + 1 := i64_s _ (by omega) (by omega)
      have h0 := HBX.out.byte k hlt
      have HLT : Hid (k < 16) := hlt
      by_cases he : x k = 0
      · have qe : (((x k : Nat) : Int) == 0) = true := by simp [he]
        have qn : (((x k : Nat) : Int) != 0) = false := by simp [he]
        have HE : Hid (x k = 0) := he
        clear he
        go_wp2
        go_roundw
        case rel => exact ⟨k + 1, by have := HK.out; omega, HLT.out, by simp, fun i h1 h2 => if h : i = k then h ▸ HE.out else HN.out i h1 (by omega), by first | rfl | trivial⟩
        case measure => have := HLT.out; simp [intOf]; omega
      · have qe : (((x k : Nat) : Int) == 0) = false := by simp [he]
        have qn : (((x k : Nat) : Int) != 0) = true := by simp [he]
        have HR : Hid (vR 4 x = false) := by show _ = _; unfold vR; refine Eq.trans (if_pos (by decide)) ?_; exact vR_no HK.out HLT.out he
        clear he
        go_wp2
        go_ret
        exact ⟨by rw [HR.out]; rfl, HLX.out⟩
    · have q1 : decide ((k : Int) < 16) = false := decide_eq_false (by omega)
      have l1 : ¬ (k : Int) < 16 := by omega
      have HR : Hid (vR 4 x = true) := by show _ = _; unfold vR; refine Eq.trans (if_pos (by decide)) ?_; exact vR_yes (fun i h1 h2 => HN.out i h1 (by omega))
      clear hlt
      go_wp2
      go_ret
      exact ⟨by rw [HR.out]; rfl, HLX.out⟩
 · have q4 : (V == 4) = false := by simp [h4]
   have q5 : (V != 4) = true := by simp [h4]
   have HR : Hid (vR V x = (V == 6)) := by show _ = _; unfold vR; rw [q4]; rfl
   clear h4
   go_wp2_with (rw [HOX.out, HWX.out])
   go_ret
   exact ⟨by rw [HR.out]; rfl, HLX.out⟩
def wdN (V : Int) : Nat := if V == 4 then 32 else 128
set_option maxHeartbeats 1600000 in
set_option maxRecDepth 100000 in
theorem width_any (V : Int) (x : Nat → Nat) (w : World) : Calls Tryz.prog 86 #[.agg (ipCells V x)] w fun r w' => r = .returned (.int .i64 (wdN V : Nat)) ∧ Below w.heap.size w w' := by
 obtain ⟨W, B, HSZX, HOX, HLX, HWX, hb⟩ := zBx w (ipCells V x) 24
 have HBX : Hid (IprAt W B V x) := hb
 obtain ⟨CX, hC⟩ : ∃ C, C = ipCells V x := ⟨_, rfl⟩
 rw [← hC] at HWX ⊢
 clear hb hC
 have c0 := HBX.out.ver
 go_enter Tryz.func86, Tryz.ntmps86
 by_cases h4 : V = 4
 · subst h4
   go_wp2_with (rw [HOX.out, HWX.out])
   go_ret
   exact ⟨rfl, HLX.out⟩
 · have q4 : (V == 4) = false := by simp [h4]
   have HR : Hid (wdN V = 128) := by show _ = _; unfold wdN; rw [q4]; rfl
   clear h4
   go_wp2_with (rw [HOX.out, HWX.out])
   go_ret
   exact ⟨by rw [HR.out]; rfl, HLX.out⟩
def btN (x : Nat → Nat) (i : Nat) : Nat := x (i / 8) / 2 ^ (7 - i % 8) % 2
set_option maxHeartbeats 1600000 in
set_option maxRecDepth 100000 in
theorem bit_any (V : Int) (x : Nat → Nat) (i : Nat) (w : World) (hi : i < 128) (hx : ∀ i, i < 16 → x i < 256) : Calls Tryz.prog 88 #[.agg (ipCells V x), .int .i64 (i : Nat)] w fun r w' => r = .returned (.int .i64 (btN x i : Nat)) ∧ Below w.heap.size w w' := by
 obtain ⟨W, B, HSZX, HOX, HLX, HWX, hb⟩ := zBx w (ipCells V x) 24
 have HBX : Hid (IprAt W B V x) := hb
 obtain ⟨CX, hC⟩ : ∃ C, C = ipCells V x := ⟨_, rfl⟩
 rw [← hC] at HWX ⊢
 clear hb hC
 obtain ⟨j, hj⟩ : ∃ j, j = i / 8 := ⟨_, rfl⟩
 obtain ⟨m, hm⟩ : ∃ m, m = i % 8 := ⟨_, rfl⟩
 have HJ : Hid (j = i / 8) := hj
 have HM : Hid (m = i % 8) := hm
 have hj16 : j < 16 := by omega
 have h0 := HBX.out.byte j hj16
 have HX8 : Hid (x j < 256) := hx j hj16
 have t1 : Int.tdiv (i : Int) 8 = (j : Int) := by rw [Int.tdiv_eq_ediv_of_nonneg (by omega)]; omega
 have t2 : Int.tmod (i : Int) 8 = (m : Int) := by rw [Int.tmod_eq_emod_of_nonneg (by omega)]; omega
 have l1 : (j : Int) < 16 := by omega
 have wj : IntKind.i64.wrap (j : Int) = (j : Int) := i64_s _ (by omega) (by omega)
 have wm : IntKind.i64.wrap (m : Int) = (m : Int) := i64_s _ (by omega) (by omega)
 have wx : IntKind.i64.wrap ((x j : Nat) : Int) = ((x j : Nat) : Int) := i64_s _ (by omega) (by have := HX8.out; omega)
 clear hj hm hi hx
 go_enter Tryz.func88, Tryz.ntmps88
 go_wp2_with (rw [HOX.out, HWX.out])
 have HM7 : Hid (m ≤ 7) := by have := HM.out; show m ≤ 7; omega
 go_loopw [5, 6] (fun cv ix wr => ∃ k c : Nat, m ≤ k ∧ k ≤ 7 ∧ cv = .int .i64 (c : Nat) ∧ ix = .int .i64 (k : Nat) ∧ Hid (c = x j / 2 ^ (k - m)) ∧ c < 256 ∧ W = wr) (fun _ ix _ => 7 - (intOf ix).toNat)
 case atStart => exact ⟨m, x j, Nat.le_refl _, HM7.out, rfl, rfl, by show _ = _; simp, HX8.out, rfl⟩
 case round =>
  obtain ⟨k, c, hk1, hk2, rfl, rfl, HC, hc, rfl⟩ := hrel
  have HK : Hid (m ≤ k ∧ k ≤ 7 ∧ c < 256) := ⟨hk1, hk2, hc⟩
  clear hk1 hk2 hc
  by_cases hlt : k < 7
  · have q1 : decide ((k : Int) < 7) = true := decide_eq_true (by omega)
    have l2 : (k : Int) < 7 := by omega
    have w1 : IntKind.i64.wrap ((k : Int) + 1) = (k : Int) + 1 := i64_s _ (by omega) (by omega)
    obtain ⟨d, hd⟩ : ∃ d, d = c / 2 := ⟨_, rfl⟩
    have HD : Hid (d = c / 2) := hd
    have t3 : Int.tdiv (c : Int) 2 = (d : Int) := by rw [Int.tdiv_eq_ediv_of_nonneg (by omega)]; omega
    have w2 : IntKind.i64.wrap (d : Int) = (d : Int) := i64_s _ (by omega) (by have := HK.out; omega)
    have HLT : Hid (k < 7) := hlt
    clear hlt hd
    go_wp2
    go_roundw
    case rel =>
     refine ⟨k + 1, d, by have := HK.out; omega, HLT.out, by simp, by simp, ?_, by have := HK.out; have := HD.out; omega, by first | rfl | trivial⟩
     show _ = _
     rw [HD.out, HC.out, show k + 1 - m = (k - m) + 1 by have := HK.out; omega, Nat.pow_succ, Nat.div_div_eq_div_mul]
    case measure => have := HLT.out; simp [intOf]; omega
  · have q1 : decide ((k : Int) < 7) = false := decide_eq_false (by omega)
    have l2 : ¬ (k : Int) < 7 := by omega
    obtain ⟨d, hd⟩ : ∃ d, d = c % 2 := ⟨_, rfl⟩
    have HD : Hid (d = c % 2) := hd
    have t3 : Int.tmod (c : Int) 2 = (d : Int) := by rw [Int.tmod_eq_emod_of_nonneg (by omega)]; omega
    have w2 : IntKind.i64.wrap (d : Int) = (d : Int) := i64_s _ (by omega) (by omega)
    have HR : Hid (btN x i = d) := by
     show _ = _
     unfold btN
     rw [← HJ.out, ← HM.out, HD.out, HC.out, show k = 7 by have := HK.out; omega]
    clear hlt hd
    go_wp2
    go_ret
    exact ⟨by rw [HR.out]; rfl, HLX.out⟩
end Go.Proofs.YtclpeepnngegaaaGreatDoor
namespace Go.Proofs.YtclpeepnngegaaaGreatDoor
open Go.RowKit Go.Maps
structure PV where
  V : Int
  x : Nat → Nat
  n : Int
def pfC (p : PV) : Array Value := #[.int .i64 p.V, .int .u8 (p.x 0 : Nat), .int .u8 (p.x 1 : Nat), .int .u8 (p.x 2 : Nat), .int .u8 (p.x 3 : Nat), .int .u8 (p.x 4 : Nat), .int .u8 (p.x 5 : Nat), .int .u8 (p.x 6 : Nat), .int .u8 (p.x 7 : Nat), .int .u8 (p.x 8 : Nat), .int .u8 (p.x 9 : Nat), .int .u8 (p.x 10 : Nat), .int .u8 (p.x 11 : Nat), .int .u8 (p.x 12 : Nat), .int .u8 (p.x 13 : Nat), .int .u8 (p.x 14 : Nat), .int .u8 (p.x 15 : Nat), .int .i64 p.n]
def pv0 : PV := ⟨0, fun _ => 0, 0⟩
theorem Tryz.size_pfx : (Tryz.prog.info? 117).map (·.size) = some 18 := by kernel_rfl
def PfxAt (w : World) (O : Nat) (pv : PV) : Prop := w.heap[O]? = some (.cells (pfC pv) 117 (0, 0))
section
variable {w : World} {O : Nat} {pv : PV} (k : PfxAt w O pv)
include k
theorem PfxAt.lt : O < w.heap.size := (Array.getElem?_eq_some_iff.1 k).1
theorem PfxAt.ch {S : Nat → Prop} {w' : World} (c : Ch S w w') (hS : ¬ S O) : PfxAt w' O pv := (c.block O k.lt hS).trans k
theorem PfxAt.below {w' : World} (c : Below w.heap.size w w') : PfxAt w' O pv := (c.block O k.lt).trans k
theorem PfxAt.cell (i : Nat) : w.cell? ⟨O, i, none⟩ = (pfC pv)[i]? := by unfold PfxAt at k; simp [World.cell?, k]
end
theorem pfx_new (w : World) (pv : PV) : PfxAt (w.alloc (.cells (pfC pv) 117)) w.heap.size pv := heap_alloc_new _ _
theorem wpList_load_pfx {ops : Array Oper} {rest : List Oper} {o : Oper} {a : Act} {w : World} {Q : Exit → Act → World → Prop} (x : Operand) (ho : o.op = .load 117 x) (O : Nat) (pv : PV) (hx : a.eval x = .pointer (some ⟨O, 0, none⟩)) (hb : PfxAt w O pv)
 (hw : Region.wanted o (yielded ops a.tmps) = true) (hh : wpList Tryz.prog ops Q rest (a.put o.dst (.agg (pfC pv))) w) : wpList Tryz.prog ops Q (o :: rest) a w := by
 refine wpList_step fun K hK => ?_
 rw [if_pos hw]
 exact wp_load_row 117 x ho O hx _ _ _ _ hb Tryz.underlying117 rfl Tryz.size_pfx (hK _ _ hh)
theorem wpList_store_pfx {ops : Array Oper} {rest : List Oper} {o : Oper} {a : Act} {w : World} {Q : Exit → Act → World → Prop} (x y : Operand) (ho : o.op = .store 117 x y) (hd : o.dst = none) (O : Nat) (pv : PV) (pv' : PV) (hx : a.eval x = .pointer (some ⟨O, 0, none⟩)) (hy : a.eval y = .agg (pfC pv')) (hb : PfxAt w O pv)
 (hw : Region.wanted o (yielded ops a.tmps) = true) (hh : ∀ w', PfxAt w' O pv' → Ch (fun q => q = O) w w' → wpList Tryz.prog ops Q rest a w') : wpList Tryz.prog ops Q (o :: rest) a w := by
 refine wpList_step fun K hK => ?_
 rw [if_pos hw]
 refine wp_store_row 117 x y ho O (pfC pv') hx hy _ (pfC pv) hb Tryz.size_pfx rfl (by simp [pfC, Value.oneCell']) (hK _ _ ?_)
 rw [hd]
 refine hh _ (setRow_heap w O _ _ _ _ hb) ⟨rfl, rfl, rfl, ?_, ?_⟩
 · simp [World.setRow]
 · intro k hk hne
   simp only [World.setRow]
   rw [Array.getElem?_modify, if_neg (fun e => hne e.symm)]
theorem wpList_alloc_pfx {ops : Array Oper} {rest : List Oper} {o : Oper} {a : Act} {w : World} {Q : Exit → Act → World → Prop} (ho : o.op = .alloc 117) (hw : Region.wanted o (yielded ops a.tmps) = true)
 (h : wpList Tryz.prog ops Q rest (a.put o.dst (.pointer (some ⟨w.heap.size, 0, none⟩))) (w.alloc (.cells (pfC pv0) 117))) : wpList Tryz.prog ops Q (o :: rest) a w := by
 refine wpList_step fun K hK => ?_
 rw [if_pos hw]
 have hrun : (execOp a.eval o).run Tryz.prog w = .ok (.value (.pointer (some ⟨w.heap.size, 0, none⟩))) (w.alloc (.cells (pfC pv0) 117)) := by
  obtain ⟨dst, op, type, pos, after, guard⟩ := o
  simp only at ho
  subst ho
  simp only [execOp]
  go_simp
  rfl
 unfold Oper.wp
 rw [hrun]
 exact hK _ _ h
theorem PfxAt.len {w : World} {O : Nat} {p : PV} (h : PfxAt w O p) : w.cell? ⟨O, 17, none⟩ = some (.int .i64 p.n) := h.cell 17
theorem PfxAt.ver {w : World} {O : Nat} {p : PV} (h : PfxAt w O p) : w.cell? ⟨O, 0, none⟩ = some (.int .i64 p.V) := h.cell 0
theorem PfxAt.ip {w : World} {O : Nat} {p : PV} (h : PfxAt w O p) : w.rangeAt O 0 (ipCells p.V p.x).toList := by
 intro j v hj
 rw [h.cell]
 have hl : j < 17 := (List.getElem?_eq_some_iff.1 hj).1
 have : j = 0 ∨ j = 1 ∨ j = 2 ∨ j = 3 ∨ j = 4 ∨ j = 5 ∨ j = 6 ∨ j = 7 ∨ j = 8 ∨ j = 9 ∨ j = 10 ∨ j = 11 ∨ j = 12 ∨ j = 13 ∨ j = 14 ∨ j = 15 ∨ j = 16 := by omega
 clear hl
 rcases this with rfl | rfl | rfl | rfl | rfl | rfl | rfl | rfl | rfl | rfl | rfl | rfl | rfl | rfl | rfl | rfl | rfl <;> exact hj
def vpR (p : PV) : Nat := if vR p.V p.x then (if decide (p.n < 0) || decide ((wdN p.V : Int) < p.n) then 45 else if (List.range (wdN p.V)).any fun i => decide (p.n ≤ (i : Int)) && btN p.x i == 1 then 46 else 0) else 40
theorem wdN_le (V : Int) : wdN V ≤ 128 := by unfold wdN; split <;> omega
set_option maxHeartbeats 1600000 in
set_option maxRecDepth 100000 in
theorem validPrefixR_any (p : PV) (w : World) (hx : ∀ i, i < 16 → p.x i < 256) : Calls Tryz.prog 87 #[.agg (pfC p)] w fun r w' => r = .returned (.int .i64 (vpR p : Nat)) ∧ Below w.heap.size w w' := by
 obtain ⟨W, B, HSZX, HOX, HLX, HWX, hb⟩ := zBx w (pfC p) 117
 have HBX : Hid (PfxAt W B p) := hb
 obtain ⟨CX, hC⟩ : ∃ C, C = pfC p := ⟨_, rfl⟩
 rw [← hC] at HWX ⊢
 clear hb hC
 have HX : Hid (∀ i, i < 16 → p.x i < 256) := hx
 clear hx
 obtain ⟨b, hb⟩ : ∃ b, vR p.V p.x = b := ⟨_, rfl⟩
 have HB : Hid (vR p.V p.x = b) := hb
 clear hb
 go_enter Tryz.func87, Tryz.ntmps87
 go_wp2_with (first | (rw [HOX.out, HWX.out]) | (refine wpList_mid_ipr (.tmp 6) rfl B 0 p.V p.x rfl HBX.out.ip rfl ?_))
 refine (validR_any p.V p.x W).mono ?_
 rintro e w1 ⟨rfl, b1⟩
 rw [HB.out]
 have H1 : Hid (PfxAt w1 B p ∧ Below w.heap.size w w1) := ⟨HBX.out.below b1, bthen HLX.out b1⟩
 clear b1
 cases b with
 | false =>
  have HR : Hid (vpR p = 40) := by show _ = _; unfold vpR; rw [HB.out]; rfl
  go_wp2_with fail
  go_ret
  exact ⟨by rw [HR.out]; rfl, H1.out.2⟩
 | true =>
  go_wp2_with (first | (refine wpList_mid_ipr (.tmp 11) rfl B 0 p.V p.x rfl H1.out.1.ip rfl ?_))
  refine (width_any p.V p.x w1).mono ?_
  rintro e w2 ⟨rfl, b2⟩
  have H2 : Hid (PfxAt w2 B p ∧ Below w.heap.size w w2) := ⟨H1.out.1.below b2, bthen H1.out.2 b2⟩
  clear b2 H1
  obtain ⟨wd, hwd⟩ : ∃ wd, wdN p.V = wd := ⟨_, rfl⟩
  have HWD : Hid (wdN p.V = wd) := hwd
  have HW8 : Hid (wd ≤ 128) := by show wd ≤ 128; rw [← hwd]; exact wdN_le _
  rw [hwd]
  clear hwd
  have c17 := H2.out.1.len
  obtain ⟨n, hn⟩ : ∃ n, p.n = n := ⟨_, rfl⟩
  have HN : Hid (p.n = n) := hn
  rw [hn] at c17
  clear hn
  by_cases h1 : n < 0
  · have q1 : decide (n < 0) = true := decide_eq_true h1
    have HR : Hid (vpR p = 45) := by show _ = _; unfold vpR; rw [HB.out, HN.out, q1]; rfl
    clear h1
    go_wp2
    go_ret
    exact ⟨by rw [HR.out]; rfl, H2.out.2⟩
  · have q1 : decide (n < 0) = false := decide_eq_false h1
    by_cases h2 : (wd : Int) < n
    · have q2 : decide ((wd : Int) < n) = true := decide_eq_true h2
      have HR : Hid (vpR p = 45) := by show _ = _; unfold vpR; rw [HB.out, HN.out, HWD.out, q1, q2]; rfl
      clear h1 h2
      go_wp2
      go_ret
      exact ⟨by rw [HR.out]; rfl, H2.out.2⟩
    · have q2 : decide ((wd : Int) < n) = false := decide_eq_false h2
      obtain ⟨m, hm⟩ : ∃ m : Nat, n = (m : Int) := ⟨n.toNat, by omega⟩
      subst hm
      have HR : Hid (vpR p = if (List.range wd).any fun i => decide ((m : Int) ≤ (i : Int)) && btN p.x i == 1 then 46 else 0) := by show _ = _; unfold vpR; rw [HB.out, HN.out, HWD.out, q1, q2]; rfl
      have HM : Hid (m ≤ wd) := by show m ≤ wd; omega
      have q3 : decide (wd < m) = false := decide_eq_false (by have := HM.out; omega)
      clear h1 h2
      go_wp2
      go_loopw [5] (fun ix wr => ∃ k : Nat, m ≤ k ∧ k ≤ wd ∧ ix = .int .i64 (k : Nat) ∧ (∀ i, m ≤ i → i < k → btN p.x i ≠ 1) ∧ Hid (PfxAt wr B p ∧ Below w.heap.size w wr)) (fun ix _ => wd - (intOf ix).toNat)
      case atStart => exact ⟨m, Nat.le_refl _, HM.out, rfl, fun i h1 h2 => by omega, H2.out⟩
      case round =>
       obtain ⟨k, hk1, hk2, rfl, hN, H3⟩ := hrel
       have HNK : Hid (∀ i, m ≤ i → i < k → btN p.x i ≠ 1) := hN
       have HK : Hid (m ≤ k ∧ k ≤ wd) := ⟨hk1, hk2⟩
       clear hN hk1 hk2 c17
       by_cases hlt : k < wd
       · have p1 : decide ((k : Int) < (wd : Int)) = true := decide_eq_true (by omega)
         have p0 : decide (k < wd) = true := decide_eq_true hlt
         have w1 : IntKind.i64.wrap ((k : Int) + 1) = (k : Int) + 1 := i64_s _ (by omega) (by have := HW8.out; omega)
         have HLT : Hid (k < wd) := hlt
         clear hlt
         go_wp2_with (refine wpList_mid_ipr (.tmp 30) rfl B 0 p.V p.x rfl H3.out.1.ip rfl ?_)
         refine (bit_any p.V p.x k wr (by have h1 := HLT.out; have h2 := HW8.out; omega) HX.out).mono ?_
         rintro e w4 ⟨rfl, b4⟩
         have H4 : Hid (PfxAt w4 B p ∧ Below w.heap.size w w4) := ⟨H3.out.1.below b4, bthen H3.out.2 b4⟩
         clear b4 H3
         by_cases he : btN p.x k = 1
         · have qe : (((btN p.x k : Nat) : Int) == 1) = true := by simp [he]
           have HZ : Hid (vpR p = 46) := by
            show _ = _
            rw [HR.out, if_pos]
            rw [List.any_eq_true]
            exact ⟨k, List.mem_range.2 HLT.out, by have := HK.out; simp [he]; omega⟩
           clear he
           go_wp2
           go_ret
           exact ⟨by rw [HZ.out]; rfl, H4.out.2⟩
         · have qe : (((btN p.x k : Nat) : Int) == 1) = false := by simp; omega
           have HE : Hid (btN p.x k ≠ 1) := he
           clear he
           go_wp2
           go_roundw
           case rel => exact ⟨k + 1, by have := HK.out; omega, HLT.out, by simp, fun i h1 h2 => if h : i = k then h ▸ HE.out else HNK.out i h1 (by omega), H4.out⟩
           case measure => have := HLT.out; simp [intOf]; omega
       · have p1 : decide ((k : Int) < (wd : Int)) = false := decide_eq_false (by omega)
         have p0 : decide (k < wd) = false := decide_eq_false hlt
         have HZ : Hid (vpR p = 0) := by
          show _ = _
          rw [HR.out, if_neg]
          rw [Bool.not_eq_true, List.any_eq_false]
          intro i hi
          have h1 := List.mem_range.1 hi
          by_cases h2 : m ≤ i
          · simp [HNK.out i h2 (by omega)]
          · simp; omega
         clear hlt
         go_wp2
         go_ret
         exact ⟨by rw [HZ.out]; rfl, H3.out.2⟩
end Go.Proofs.YtclpeepnngegaaaGreatDoor
namespace Go.Proofs.YtclpeepnngegaaaGreatDoor
open Go.RowKit Go.Maps
theorem IprAt.rng {w : World} {O : Nat} {V : Int} {x : Nat → Nat} (h : IprAt w O V x) : w.rangeAt O 0 (ipCells V x).toList := by
 intro j v hj
 rw [h.cell, Nat.zero_add, ← Array.getElem?_toList]
 exact hj
def cnR (p : PV) (V : Int) (x : Nat → Nat) : Bool := vpR p == 0 && vR V x && p.V == V && (List.range p.n.toNat).all fun i => btN p.x i == btN x i
theorem vpR_zero {p : PV} (h : vpR p = 0) : 0 ≤ p.n ∧ p.n ≤ 128 := by
 unfold vpR at h
 have := wdN_le p.V
 split at h
 · split at h
   · cases h
   · rename_i h2
     simp at h2
     omega
 · cases h
set_option maxHeartbeats 1600000 in
set_option maxRecDepth 100000 in
theorem containsR_any (p : PV) (V : Int) (x : Nat → Nat) (w : World) (hp : ∀ i, i < 16 → p.x i < 256) (hx : ∀ i, i < 16 → x i < 256) : Calls Tryz.prog 66 #[.agg (pfC p), .agg (ipCells V x)] w fun r w' => r = .returned (.bool (cnR p V x)) ∧ Below w.heap.size w w' := by
 obtain ⟨W, B, HSZX, HOX, HLX, HWX, hb⟩ := zBx w (pfC p) 117
 have HBX : Hid (PfxAt W B p) := hb
 obtain ⟨CX, hC⟩ : ∃ C, C = pfC p := ⟨_, rfl⟩
 rw [← hC] at HWX ⊢
 clear hb hC
 obtain ⟨Y, I, HSZY, HOY, HLY, HWY, hb⟩ := zBx W (ipCells V x) 24
 have HBY : Hid (IprAt Y I V x) := hb
 obtain ⟨CY, hC⟩ : ∃ C, C = ipCells V x := ⟨_, rfl⟩
 rw [← hC] at HWY ⊢
 clear hb hC
 have HPX : Hid (∀ i, i < 16 → p.x i < 256) := hp
 have HXX : Hid (∀ i, i < 16 → x i < 256) := hx
 have H0 : Hid (PfxAt Y B p ∧ IprAt Y I V x ∧ Below w.heap.size w Y) := ⟨HBX.out.below HLY.out, HBY.out, bthen HLX.out HLY.out⟩
 clear hp hx
 obtain ⟨e, he⟩ : ∃ e, vpR p = e := ⟨_, rfl⟩
 have HE : Hid (vpR p = e) := he
 obtain ⟨b, hb⟩ : ∃ b, vR V x = b := ⟨_, rfl⟩
 have HB : Hid (vR V x = b) := hb
 clear he hb
 go_enter Tryz.func66, Tryz.ntmps66
 go_wp2_with (first | (rw [HOX.out, HWX.out]) | (rw [HOY.out, HWY.out]) | (refine wpList_load_pfx (.tmp 2) rfl B p rfl H0.out.1 rfl ?_))
 refine (validPrefixR_any p Y HPX.out).mono ?_
 rintro e1 w1 ⟨rfl, b1⟩
 rw [HE.out]
 have H1 : Hid (PfxAt w1 B p ∧ IprAt w1 I V x ∧ Below w.heap.size w w1) := ⟨H0.out.1.below b1, H0.out.2.1.below b1, bthen H0.out.2.2 b1⟩
 clear b1 H0
 go_wp2_with (first | (refine wpList_load_ipr (.tmp 3) rfl I V x rfl H1.out.2.1 rfl ?_))
 refine (validR_any V x w1).mono ?_
 rintro e1 w2 ⟨rfl, b2⟩
 rw [HB.out]
 have H2 : Hid (PfxAt w2 B p ∧ IprAt w2 I V x ∧ Below w.heap.size w w2) := ⟨H1.out.1.below b2, H1.out.2.1.below b2, bthen H1.out.2.2 b2⟩
 clear b2 H1
 have cp := H2.out.1.ver
 have ci := H2.out.2.1.ver
 by_cases h0 : e = 0
 · subst h0
   cases b with
   | false =>
    have HR : Hid (cnR p V x = false) := by show _ = _; unfold cnR; rw [HB.out]; simp
    go_wp2
    go_ret
    exact ⟨by rw [HR.out]; rfl, H2.out.2.2⟩
   | true =>
    by_cases hv : p.V = V
    · have q1 : (p.V == V) = true := by simp [hv]
      have q2 : (p.V != V) = false := by simp [hv]
      have HR : Hid (cnR p V x = (List.range p.n.toNat).all fun i => btN p.x i == btN x i) := by show _ = _; unfold cnR; rw [HB.out, HE.out, q1]; rfl
      clear hv
      obtain ⟨n, hn⟩ : ∃ n : Nat, p.n = (n : Int) := ⟨p.n.toNat, by have := vpR_zero HE.out; omega⟩
      have HN : Hid (p.n = (n : Int)) := hn
      have H128 : Hid (n ≤ 128) := by have := vpR_zero HE.out; show n ≤ 128; omega
      have HR2 : Hid (cnR p V x = (List.range n).all fun i => btN p.x i == btN x i) := by show _ = _; rw [HR.out, hn]; rfl
      clear hn HR
      go_wp2
      go_loopw [7] (fun ix wr => ∃ k : Nat, k ≤ n ∧ ix = .int .i64 (k : Nat) ∧ (∀ i, i < k → btN p.x i = btN x i) ∧ Hid (PfxAt wr B p ∧ IprAt wr I V x ∧ Below w.heap.size w wr)) (fun ix _ => n - (intOf ix).toNat)
      case atStart => exact ⟨0, by omega, rfl, fun i h => by omega, H2.out⟩
      case round =>
       obtain ⟨k, hk, rfl, hN, H3⟩ := hrel
       have HNK : Hid (∀ i, i < k → btN p.x i = btN x i) := hN
       clear hN cp ci
       have c17 : wr.cell? ⟨B, 17, none⟩ = some (.int .i64 (n : Int)) := by rw [← HN.out]; exact H3.out.1.len
       by_cases hlt : k < n
       · have p1 : decide ((k : Int) < (n : Int)) = true := decide_eq_true (by omega)
         have p0 : decide (k < n) = true := decide_eq_true hlt
         have w1 : IntKind.i64.wrap ((k : Int) + 1) = (k : Int) + 1 := i64_s _ (by omega) (by have := H128.out; omega)
         have HLT : Hid (k < n) := hlt
         have HK128 : Hid (k < 128) := by have := H128.out; show k < 128; omega
         clear hlt hk
         go_upto_region 8 with fail
         refine MixH.start (fun A => PfxAt A B p ∧ IprAt A I V x ∧ Below w.heap.size w A) (by kernel_rfl) ?_
         obtain ⟨wA, hwA⟩ : ∃ wA, wA = wr.drew := ⟨_, rfl⟩
         have bdr := zDr hwA
         have hS : PfxAt wA B p ∧ IprAt wA I V x ∧ Below w.heap.size w wA := ⟨H3.out.1.below bdr, H3.out.2.1.below bdr, bthen H3.out.2.2 bdr⟩
         rw [← hwA]
         clear hwA bdr H3 c17
         refine MixH.tks [true, false, true, false, false, true] 5 hS (fun K hK => ?_)
         simp only [Mix.pick]
         repeat (go_big_quiet_step (fail))
         refine wpQuiet_nil (hK _ ?_)
         clear hK K
         refine MixH.tk 4 1 rfl (.agg (ipCells p.V p.x)) (yields_ipr (.tmp 32) rfl B 0 p.V p.x rfl rfl (fun A hA => hA.1.ip)) hS (fun a' ha => ?_)
         simp only [zP1, zP2, zP3, zP4] at ha
         subst ha
         refine MixH.tk 3 4 rfl (.agg (ipCells V x)) (yields_ipr (.tmp 3) rfl I 0 V x rfl rfl (fun A hA => hA.2.1.rng)) hS (fun a' ha => ?_)
         simp only [zP1, zP2, zP3, zP4] at ha
         subst ha
         refine MixH.one [false, false, false, true] 2 3 _ rfl rfl (by kernel_rfl) (by kernel_rfl) (fun K hK => ?_)
         simp only [Mix.pick]
         go_wp2_with fail
         refine Calls.mono (bit_any p.V p.x k wA HK128.out HPX.out) ?_
         rintro e1 wB ⟨rfl, gz⟩
         replace hS : PfxAt wB B p ∧ IprAt wB I V x ∧ Below w.heap.size w wB := ⟨hS.1.below gz, hS.2.1.below gz, bthen hS.2.2 gz⟩
         clear gz
         go_wp2_with fail
         refine ⟨rfl, hK _ _ hS ?_⟩
         clear hK K
         refine MixH.one [false, false, false, false, false, false, true] 1 6 _ rfl rfl (by kernel_rfl) (by kernel_rfl) (fun K hK => ?_)
         simp only [Mix.pick]
         go_wp2_with fail
         refine Calls.mono (bit_any V x k wB HK128.out HXX.out) ?_
         rintro e1 wC ⟨rfl, gz⟩
         replace hS : PfxAt wC B p ∧ IprAt wC I V x ∧ Below w.heap.size w wC := ⟨hS.1.below gz, hS.2.1.below gz, bthen hS.2.2 gz⟩
         clear gz
         go_wp2_with fail
         refine ⟨rfl, hK _ _ hS ?_⟩
         clear hK K
         refine MixH.tks [false, false, false, false, false, false, false, true] 0 hS (fun K hK => ?_)
         simp only [Mix.pick]
         repeat (go_big_quiet_step (fail))
         refine wpQuiet_nil (hK _ ?_)
         clear hK K
         refine MixH.done (by kernel_rfl) ?_
         have H4 : Hid (PfxAt wC B p ∧ IprAt wC I V x ∧ Below w.heap.size w wC) := hS
         clear hS
         by_cases he : btN p.x k = btN x k
         · have qe : (((btN p.x k : Nat) : Int) == ((btN x k : Nat) : Int)) = true := by simp [he]
           have qn : (((btN p.x k : Nat) : Int) != ((btN x k : Nat) : Int)) = false := by simp [he]
           have HEE : Hid (btN p.x k = btN x k) := he
           clear he
           go_wp2
           go_roundw
           case rel => exact ⟨k + 1, HLT.out, by simp, fun i h2 => if h : i = k then h ▸ HEE.out else HNK.out i (by omega), H4.out⟩
           case measure => have := HLT.out; simp [intOf]; omega
         · have qe : (((btN p.x k : Nat) : Int) == ((btN x k : Nat) : Int)) = false := by simp; omega
           have qn : (((btN p.x k : Nat) : Int) != ((btN x k : Nat) : Int)) = true := by simp; omega
           have HZ : Hid (cnR p V x = false) := by
            show _ = _
            rw [HR2.out, List.all_eq_false]
            exact ⟨k, List.mem_range.2 HLT.out, by simp [he]⟩
           clear he
           go_wp2
           go_ret
           exact ⟨by rw [HZ.out]; rfl, H4.out.2.2⟩
       · have p1 : decide ((k : Int) < (n : Int)) = false := decide_eq_false (by omega)
         have p0 : decide (k < n) = false := decide_eq_false hlt
         have HZ : Hid (cnR p V x = true) := by
          show _ = _
          rw [HR2.out, List.all_eq_true]
          intro i hi
          have h1 := List.mem_range.1 hi
          simp [HNK.out i (by omega)]
         clear hlt
         go_wp2
         go_ret
         exact ⟨by rw [HZ.out]; rfl, H3.out.2.2⟩
    · have q1 : (p.V == V) = false := by simp [hv]
      have q2 : (p.V != V) = true := by simp [hv]
      have HR : Hid (cnR p V x = false) := by show _ = _; unfold cnR; rw [q1]; simp
      clear hv
      go_wp2
      go_ret
      exact ⟨by rw [HR.out]; rfl, H2.out.2.2⟩
 · have q1 : ((e : Int) == 0) = false := by simp [h0]
   have q2 : ((e : Int) != 0) = true := by simp [h0]
   have HR : Hid (cnR p V x = false) := by show _ = _; unfold cnR; rw [HE.out]; simp [h0]
   clear h0
   go_wp2
   go_ret
   exact ⟨by rw [HR.out]; rfl, H2.out.2.2⟩
end Go.Proofs.YtclpeepnngegaaaGreatDoor
