/-
  addr and weirref4: GroupMac, Solicited.
-/
import Derived.Test.YteldiggaooeeeaaGreatDoorB4s
import Derived.Test.YteldiggaooeeeaaGreatDoorAdSta
import Derived.Test.YteldiggaooeeeaaGreatDoorZg
namespace Go.Proofs.YteldiggaooeeeaaGreatDoor
open Go.RowKit Go.Maps

theorem Tryz.size_arw : (Tryz.prog.info? 26).map (·.size) = some 16 := by kernel_rfl
def ArwAt (w : World) (O : Nat) (av : Nat → Nat) : Prop := w.heap[O]? = some (.cells (arCells av) 26 (0, 0))
section
variable {w : World} {O : Nat} {av : Nat → Nat} (k : ArwAt w O av)
include k
theorem ArwAt.lt : O < w.heap.size := (Array.getElem?_eq_some_iff.1 k).1
theorem ArwAt.ch {S : Nat → Prop} {w' : World} (c : Ch S w w') (hS : ¬ S O) : ArwAt w' O av := (c.block O k.lt hS).trans k
theorem ArwAt.below {w' : World} (c : Below w.heap.size w w') : ArwAt w' O av := (c.block O k.lt).trans k
theorem ArwAt.cell (i : Nat) : w.cell? ⟨O, i, none⟩ = (arCells av)[i]? := by unfold ArwAt at k; simp [World.cell?, k]
theorem ArwAt.fz (j : Nat) : w.frozen? ⟨O, j, none⟩ = false := by unfold ArwAt at k; simp [World.frozen?, k]
theorem ArwAt.range (o n : Nat) : w.rangeAt O o (((arCells av).extract o (o + n)).toList) := World.rangeAt_of_block k o n
end
theorem arw_new (w : World) (av : Nat → Nat) : ArwAt (w.alloc (.cells (arCells av) 26)) w.heap.size av := heap_alloc_new _ _
theorem wpList_load_arw {ops : Array Oper} {rest : List Oper} {o : Oper} {a : Act} {w : World} {Q : Exit → Act → World → Prop} (x : Operand) (ho : o.op = .load 26 x) (O : Nat) (av : Nat → Nat) (hx : a.eval x = .pointer (some ⟨O, 0, none⟩)) (hb : ArwAt w O av)
    (hw : Region.wanted o (yielded ops a.tmps) = true) (hh : wpList Tryz.prog ops Q rest (a.put o.dst (.agg (arCells av))) w) : wpList Tryz.prog ops Q (o :: rest) a w := by
  refine wpList_step fun K hK => ?_
  rw [if_pos hw]
  exact wp_load_row 26 x ho O hx _ _ _ _ hb Tryz.underlying26 rfl Tryz.size_arw (hK _ _ hh)
theorem wpList_store_arw {ops : Array Oper} {rest : List Oper} {o : Oper} {a : Act} {w : World} {Q : Exit → Act → World → Prop} (x y : Operand) (ho : o.op = .store 26 x y) (hd : o.dst = none) (O : Nat) (av : Nat → Nat) (av' : Nat → Nat) (hx : a.eval x = .pointer (some ⟨O, 0, none⟩)) (hy : a.eval y = .agg (arCells av')) (hb : ArwAt w O av)
    (hw : Region.wanted o (yielded ops a.tmps) = true) (hh : ∀ w', ArwAt w' O av' → Ch (fun q => q = O) w w' → wpList Tryz.prog ops Q rest a w') : wpList Tryz.prog ops Q (o :: rest) a w := by
  refine wpList_step fun K hK => ?_
  rw [if_pos hw]
  refine wp_store_row 26 x y ho O (arCells av') hx hy _ (arCells av) hb Tryz.size_arw rfl (by simp [arCells, Value.oneCell']) (hK _ _ ?_)
  rw [hd]
  refine hh _ (setRow_heap w O _ _ _ _ hb) ⟨rfl, rfl, rfl, ?_, ?_⟩
  · simp [World.setRow]
  · intro k hk hne
    simp only [World.setRow]
    rw [Array.getElem?_modify, if_neg (fun e => hne e.symm)]
theorem wpList_alloc_arw {ops : Array Oper} {rest : List Oper} {o : Oper} {a : Act} {w : World} {Q : Exit → Act → World → Prop} (ho : o.op = .alloc 26) (hw : Region.wanted o (yielded ops a.tmps) = true)
    (h : wpList Tryz.prog ops Q rest (a.put o.dst (.pointer (some ⟨w.heap.size, 0, none⟩))) (w.alloc (.cells (arCells (fun _ => 0)) 26))) : wpList Tryz.prog ops Q (o :: rest) a w := by
  refine wpList_step fun K hK => ?_
  rw [if_pos hw]
  have hrun : (execOp a.eval o).run Tryz.prog w = .ok (.value (.pointer (some ⟨w.heap.size, 0, none⟩))) (w.alloc (.cells (arCells (fun _ => 0)) 26)) := by
    obtain ⟨dst, op, type, pos, after, guard⟩ := o
    simp only at ho
    subst ho
    simp only [execOp]
    go_simp
    rfl
  unfold Oper.wp
  rw [hrun]
  exact hK _ _ h
theorem wpList_mid_arw {ops : Array Oper} {rest : List Oper} {o : Oper} {a : Act} {w : World} {Q : Exit → Act → World → Prop} (x : Operand) (ho : o.op = .load 26 x) (O off : Nat) (av : Nat → Nat) (hx : a.eval x = .pointer (some ⟨O, off, none⟩)) (hb : w.rangeAt O off (arCells av).toList)
    (hw : Region.wanted o (yielded ops a.tmps) = true) (h : wpList Tryz.prog ops Q rest (a.put o.dst (.agg (arCells av))) w) : wpList Tryz.prog ops Q (o :: rest) a w := by
  refine wpList_step fun K hK => ?_
  rw [if_pos hw]
  exact wp_load_mid 26 x ho O off hx (arCells av).toList _ hb Tryz.underlying26 rfl Tryz.size_arw (hK _ _ h)
theorem wpList_nil_arN {ops : Array Oper} {rest : List Oper} {o : Oper} {a : Act} {w : World} {Q : Exit → Act → World → Prop} (ho : o.op = .alloc 26) (hw : Region.wanted o (yielded ops a.tmps) = true)
    (h : ∀ B W, Hid (w.heap.size = B ∧ W.heap.size = B + 1) → ArwAt W B (fun _ => 0) → Below w.heap.size w W → wpList Tryz.prog ops Q rest (a.put o.dst (.pointer (some ⟨B, 0, none⟩))) W) : wpList Tryz.prog ops Q (o :: rest) a w :=
  wpList_alloc_arw ho hw (h _ _ ⟨rfl, World.size_alloc _ _⟩ (arw_new _ _) ((Below.refl _ _).alloc (Nat.le_refl _) _))
theorem wpList_nil_macN {ops : Array Oper} {rest : List Oper} {o : Oper} {a : Act} {w : World} {Q : Exit → Act → World → Prop} (ho : o.op = .alloc 40) (hw : Region.wanted o (yielded ops a.tmps) = true)
    (h : ∀ B W, Hid (w.heap.size = B ∧ W.heap.size = B + 1) → MacAt W B mz → Below w.heap.size w W → wpList Tryz.prog ops Q rest (a.put o.dst (.pointer (some ⟨B, 0, none⟩))) W) : wpList Tryz.prog ops Q (o :: rest) a w :=
  wpList_alloc_mac ho hw (h _ _ ⟨rfl, World.size_alloc _ _⟩ (mac_new _ _) ((Below.refl _ _).alloc (Nat.le_refl _) _))
theorem results_mac_t {fn : Func} {p u0 : Tmp} (h : fn.results = #[.cell p 40, .tmp u0]) (tmps : Array Value) (w : World) (O : Nat) (f : Nat → Nat) (hp : tmps.getD p undef = .pointer (some ⟨O, 0, none⟩)) (hb : MacAt w O f) :
    (results fn tmps).run Tryz.prog w = .ok (.tuple #[.agg (macC f), tmps.getD u0 undef]) w := by
  rw [results_cell_tmp h tmps Tryz.prog w, hp]
  simp [asAddr, run_loadVar_row w O _ 40 (macC f) _ _ hb Tryz.underlying40 rfl Tryz.size_mac, Result.andThen]
/-- the link address of a group -/
def gmL (V : Int) (x : Nat → Nat) : List Nat := if V = 4 then [1, 0, 94, x 1 % 128, x 2, x 3] else [51, 51, x 12, x 13, x 14, x 15]
def gmM (V : Int) (x : Nat → Nat) : Nat → Nat := if clR V x = 3 then bt (gmL V x) else mz
def gmE (V : Int) (x : Nat → Nat) : Nat := if clR V x = 3 then 0 else 40
def gmO (V : Int) (x : Nat → Nat) : Value := .tuple #[.agg (macC (gmM V x)), .int .i64 (gmE V x : Nat)]
theorem gm_no {V : Int} {x : Nat → Nat} (h : clR V x ≠ 3) : gmO V x = .tuple #[.agg (macC mz), .int .i64 40] := by unfold gmO gmM gmE; rw [if_neg h, if_neg h]; rfl
theorem gm_yes {V : Int} {x : Nat → Nat} (h : clR V x = 3) : gmO V x = .tuple #[.agg (macC (bt (gmL V x))), .int .i64 0] := by unfold gmO gmM gmE; rw [if_pos h, if_pos h]; rfl
theorem and127 {b : Nat} (h : b < 256) : bits BinOp.and IntKind.u8 (b : Int) 127 = ((b % 128 : Nat) : Int) := by
  have h1 := Go.u8_and_nat b 127 h (by omega)
  rw [show ((127 : Nat) : Int) = 127 from rfl] at h1
  rw [h1]
  congr 1
  exact Nat.and_two_pow_sub_one_eq_mod b 7
def soF (x : Nat → Nat) : Nat → Nat := bt [255, 2, 0, 0, 0, 0, 0, 0, 0, 0, 0, 1, 255, x 13, x 14, x 15]
def soB (V : Int) (x : Nat → Nat) : Bool := V == 6 && !(clR V x == 1) && !(clR V x == 3)
def soO (V : Int) (x : Nat → Nat) : Value := if soB V x then .tuple #[.agg (ipCells 6 (soF x)), .int .i64 0] else .tuple #[.agg (ipCells 0 (fun _ => 0)), .int .i64 40]
theorem run_bmac4 (a b c : Nat) (w : World) : (Instr.build 40 #[(0, .int .u8 1), (1, .int .u8 0), (2, .int .u8 94), (3, .int .u8 (a : Nat)), (4, .int .u8 (b : Nat)), (5, .int .u8 (c : Nat))]).run Tryz.prog w = .ok (.agg (macC (bt [1, 0, 94, a, b, c]))) w := by kernel_rfl
theorem wpList_bmac4 {ops : Array Oper} {rest : List Oper} {o : Oper} {a_ : Act} {w : World} {Q : Exit → Act → World → Prop} (y0 y1 y2 y3 y4 y5 : Operand) (ho : o.op = .build 40 #[(0, y0), (1, y1), (2, y2), (3, y3), (4, y4), (5, y5)]) (a b c : Nat) (h0 : a_.eval y0 = .int .u8 1) (h1 : a_.eval y1 = .int .u8 0) (h2 : a_.eval y2 = .int .u8 94) (h3 : a_.eval y3 = .int .u8 (a : Nat)) (h4 : a_.eval y4 = .int .u8 (b : Nat)) (h5 : a_.eval y5 = .int .u8 (c : Nat)) (hw : Region.wanted o (yielded ops a_.tmps) = true)
    (h : wpList Tryz.prog ops Q rest (a_.put o.dst (.agg (macC (bt [1, 0, 94, a, b, c])))) w) : wpList Tryz.prog ops Q (o :: rest) a_ w := by
  refine wpList_step fun K hK => ?_
  rw [if_pos hw]
  have hrun : (execOp a_.eval o).run Tryz.prog w = .ok (.value (.agg (macC (bt [1, 0, 94, a, b, c])))) w := by
    obtain ⟨dst, op, type, pos, after, guard⟩ := o
    simp only at ho
    subst ho
    simp only [execOp, Sem.run_bind, List.map_toArray, List.map_cons, List.map_nil, h0, h1, h2, h3, h4, h5, run_bmac4 a b c w, Result.andThen_ok]
    rfl
  unfold Oper.wp
  rw [hrun]
  exact hK _ _ h
theorem run_bmac6 (a b c d : Nat) (w : World) : (Instr.build 40 #[(0, .int .u8 51), (1, .int .u8 51), (2, .int .u8 (a : Nat)), (3, .int .u8 (b : Nat)), (4, .int .u8 (c : Nat)), (5, .int .u8 (d : Nat))]).run Tryz.prog w = .ok (.agg (macC (bt [51, 51, a, b, c, d]))) w := by kernel_rfl
theorem wpList_bmac6 {ops : Array Oper} {rest : List Oper} {o : Oper} {a_ : Act} {w : World} {Q : Exit → Act → World → Prop} (y0 y1 y2 y3 y4 y5 : Operand) (ho : o.op = .build 40 #[(0, y0), (1, y1), (2, y2), (3, y3), (4, y4), (5, y5)]) (a b c d : Nat) (h0 : a_.eval y0 = .int .u8 51) (h1 : a_.eval y1 = .int .u8 51) (h2 : a_.eval y2 = .int .u8 (a : Nat)) (h3 : a_.eval y3 = .int .u8 (b : Nat)) (h4 : a_.eval y4 = .int .u8 (c : Nat)) (h5 : a_.eval y5 = .int .u8 (d : Nat)) (hw : Region.wanted o (yielded ops a_.tmps) = true)
    (h : wpList Tryz.prog ops Q rest (a_.put o.dst (.agg (macC (bt [51, 51, a, b, c, d])))) w) : wpList Tryz.prog ops Q (o :: rest) a_ w := by
  refine wpList_step fun K hK => ?_
  rw [if_pos hw]
  have hrun : (execOp a_.eval o).run Tryz.prog w = .ok (.value (.agg (macC (bt [51, 51, a, b, c, d])))) w := by
    obtain ⟨dst, op, type, pos, after, guard⟩ := o
    simp only at ho
    subst ho
    simp only [execOp, Sem.run_bind, List.map_toArray, List.map_cons, List.map_nil, h0, h1, h2, h3, h4, h5, run_bmac6 a b c d w, Result.andThen_ok]
    rfl
  unfold Oper.wp
  rw [hrun]
  exact hK _ _ h
theorem run_bsol (a b c : Nat) (w : World) : (Instr.build 26 #[(0, .int .u8 255), (1, .int .u8 2), (11, .int .u8 1), (12, .int .u8 255), (13, .int .u8 (a : Nat)), (14, .int .u8 (b : Nat)), (15, .int .u8 (c : Nat))]).run Tryz.prog w = .ok (.agg (arCells (bt [255, 2, 0, 0, 0, 0, 0, 0, 0, 0, 0, 1, 255, a, b, c]))) w := by kernel_rfl
theorem wpList_bsol {ops : Array Oper} {rest : List Oper} {o : Oper} {a_ : Act} {w : World} {Q : Exit → Act → World → Prop} (y0 y1 y2 y3 y4 y5 y6 : Operand) (ho : o.op = .build 26 #[(0, y0), (1, y1), (11, y2), (12, y3), (13, y4), (14, y5), (15, y6)]) (a b c : Nat) (h0 : a_.eval y0 = .int .u8 255) (h1 : a_.eval y1 = .int .u8 2) (h2 : a_.eval y2 = .int .u8 1) (h3 : a_.eval y3 = .int .u8 255) (h4 : a_.eval y4 = .int .u8 (a : Nat)) (h5 : a_.eval y5 = .int .u8 (b : Nat)) (h6 : a_.eval y6 = .int .u8 (c : Nat)) (hw : Region.wanted o (yielded ops a_.tmps) = true)
    (h : wpList Tryz.prog ops Q rest (a_.put o.dst (.agg (arCells (bt [255, 2, 0, 0, 0, 0, 0, 0, 0, 0, 0, 1, 255, a, b, c])))) w) : wpList Tryz.prog ops Q (o :: rest) a_ w := by
  refine wpList_step fun K hK => ?_
  rw [if_pos hw]
  have hrun : (execOp a_.eval o).run Tryz.prog w = .ok (.value (.agg (arCells (bt [255, 2, 0, 0, 0, 0, 0, 0, 0, 0, 0, 1, 255, a, b, c])))) w := by
    obtain ⟨dst, op, type, pos, after, guard⟩ := o
    simp only at ho
    subst ho
    simp only [execOp, Sem.run_bind, List.map_toArray, List.map_cons, List.map_nil, h0, h1, h2, h3, h4, h5, h6, run_bsol a b c w, Result.andThen_ok]
    rfl
  unfold Oper.wp
  rw [hrun]
  exact hK _ _ h
/-- "ff02::1:ff00:0" -/
def soT : ByteArray := ⟨#[102, 102, 48, 50, 58, 58, 49, 58, 102, 102, 48, 48, 58, 48]⟩
def so0 : Nat → Nat := bt [255, 2, 0, 0, 0, 0, 0, 0, 0, 0, 0, 1, 255, 0, 0, 0]
theorem soT_any (w : World) : Calls Tryz.prog 42 #[.string soT] w fun r w' => r = .returned (.tuple #[.agg (ipCells 6 so0), .int .i64 0, .int .i64 0]) ∧ Below w.heap.size w w' := by
  refine (parse6_right soT w (by decide) (by decide +kernel) (nodot (by decide +kernel)) (by decide +kernel) (by decide +kernel)).mono ?_
  rintro r w' ⟨hr, b⟩
  have e : ipCells 6 (fil (sxL soT) (sxL soT).g.length) = ipCells 6 so0 := by kernel_rfl
  exact ⟨by rw [hr, e], b⟩
def soP (x : Nat → Nat) (i : Nat) (k : Nat) : Nat := if 13 ≤ k ∧ k < i then x k else so0 k
theorem soP_up (x : Nat → Nat) {i : Nat} (h : 13 ≤ i) : up1 (soP x i) i (x i) = soP x (i + 1) := by
  funext k
  unfold up1 soP
  by_cases e : k = i
  · subst e
    simp [h]
  · by_cases e2 : 13 ≤ k ∧ k < i
    · simp [e, e2, show k < i + 1 by omega]
    · simp only [e, if_false]
      rw [if_neg e2, if_neg (by omega)]
theorem soP_end (x : Nat → Nat) : ipCells 6 (soP x 16) = ipCells 6 (soF x) := by kernel_rfl
theorem soP_0 (x : Nat → Nat) : soP x 13 = so0 := by
  funext k
  unfold soP
  rw [if_neg (by omega)]
set_option maxHeartbeats 1600000 in
set_option maxRecDepth 100000 in
theorem gmac_any (V : Int) (x : Nat → Nat) (w : World) (hx : ∀ i, i < 16 → x i < 256) (hs : Spe8 w) : Calls Tryz.prog 25 #[.agg (ipCells V x)] w fun r w' => r = .returned (gmO V x) ∧ Below w.heap.size w w' := by
  have HX : Hid (∀ i, i < 16 → x i < 256) := hx
  have HSP : Hid (Spe8 w) := hs
  clear hx hs
  go_enter Tryz.func25, Tryz.ntmps25
  go_wp2_with (refine wpList_box_ipN (.tmp 0) rfl V x rfl rfl ?_)
  intro B W1 HB1 hI bI
  go_wp2_with (refine wpList_nil_macN rfl rfl ?_)
  intro R W2 HR1 hR bR
  have HBR : Hid (w.heap.size ≤ B ∧ B < R ∧ W2.heap.size = R + 1) := ⟨by have := HB1.out; omega, by have := HB1.out; have := HR1.out; omega, HR1.out.2⟩
  have H2 : Hid (IprAt W2 B V x ∧ MacAt W2 R mz ∧ Below w.heap.size w W2) := ⟨hI.below bR, hR, bthen bI bR⟩
  clear hI bI hR bR HB1 HR1
  go_wp2_with (refine wpList_load_ipr (.tmp 1) rfl B V x rfl H2.out.1 rfl ?_)
  refine (class_any V x W2 HX.out (HSP.out.old H2.out.2.2)).mono ?_
  rintro e w3 ⟨rfl, hb⟩
  have H3 : Hid (IprAt w3 B V x ∧ MacAt w3 R mz ∧ Below w.heap.size w w3) := ⟨H2.out.1.below hb, H2.out.2.1.below hb, H2.out.2.2.trans (hb.mono H2.out.2.2.size)⟩
  clear hb H2
  rw [class_alike V x HX.out]
  by_cases hc : clR V x = 3
  · have HC : Hid (gmO V x = .tuple #[.agg (macC (bt (gmL V x))), .int .i64 0]) := gm_yes hc
    have e1 : (((clR V x : Nat) : Int) != 3) = false := by rw [hc]; rfl
    have e2 : ((clR V x : Nat) : Int) = 3 := by omega
    clear hc
    have k0 : w3.cell? ⟨B, 0, none⟩ = some (.int .i64 V) := H3.out.1.cell 0
    go_wp2_with (first | (refine wpList_mid_arw (.tmp 9) rfl B 1 x rfl H3.out.1.ar rfl ?_) | (refine wpList_nil_arN rfl rfl ?_))
    intro A w4 HA hA bA
    have HAR : Hid (R < A ∧ B < A) := by
      have h1 := HA.out
      have h2 := H3.out.2.1.lt
      have h3 := H3.out.1.lt
      exact ⟨by omega, by omega⟩
    clear k0
    go_wp2_with (refine wpList_store_arw (.tmp 4) (.tmp 10) rfl rfl A (fun _ => 0) x rfl rfl hA rfl ?_)
    intro w5 hA5 k5
    have H5 : Hid (IprAt w5 B V x ∧ MacAt w5 R mz ∧ Below w.heap.size w w5) := by
      have h1 := HBR.out
      have h2 := HAR.out
      have b5 := H3.out.2.2.trans (bA.mono H3.out.2.2.size)
      exact ⟨(H3.out.1.below bA).ch k5 (by omega), (H3.out.2.1.below bA).ch k5 (by omega), b5.trans (k5.below (fun q hq => by have h' : q = A := hq; omega) b5.size)⟩
    have HA5 : Hid (ArwAt w5 A x) := hA5
    have k0 : w5.cell? ⟨B, 0, none⟩ = some (.int .i64 V) := H5.out.1.cell 0
    clear hA bA HA hA5 k5 H3
    by_cases h4 : V = 4
    · subst h4
      have HL : Hid (gmL 4 x = [1, 0, 94, x 1 % 128, x 2, x 3]) := if_pos rfl
      have b1 : w5.cell? ⟨A, 1, none⟩ = some (.int .u8 (x 1 : Nat)) := HA5.out.cell 1
      have b2 : w5.cell? ⟨A, 2, none⟩ = some (.int .u8 (x 2 : Nat)) := HA5.out.cell 2
      have b3 : w5.cell? ⟨A, 3, none⟩ = some (.int .u8 (x 3 : Nat)) := HA5.out.cell 3
      have an : bits BinOp.and IntKind.u8 ((x 1 : Nat) : Int) 127 = ((x 1 % 128 : Nat) : Int) := and127 (HX.out 1 (by decide))
      go_wp2_with (first | (refine wpList_bmac4 (.const (.int .u8 1)) (.const (.int .u8 0)) (.const (.int .u8 94)) (.tmp 16) (.tmp 18) (.tmp 20) rfl (x 1 % 128) (x 2) (x 3) rfl rfl rfl rfl rfl rfl rfl ?_) | (refine wpList_store_mac (.tmp 2) (.tmp 21) rfl rfl R mz (bt [1, 0, 94, x 1 % 128, x 2, x 3]) rfl rfl H5.out.2.1 rfl ?_))
      intro wE hRE kE
      have HE : Hid (MacAt wE R (bt [1, 0, 94, x 1 % 128, x 2, x 3]) ∧ Below w.heap.size w wE) := ⟨hRE, H5.out.2.2.trans (kE.below (fun q e => by have e' : q = R := e; have := HBR.out; omega) H5.out.2.2.size)⟩
      clear hRE kE
      go_wp2
      (try simp only [Exit.inBlock, Exit.then])
      refine bodyPost_ret (results_mac_t rfl _ _ R (bt [1, 0, 94, x 1 % 128, x 2, x 3]) rfl HE.out.1) rfl ?_
      exact ⟨by rw [HC.out, HL.out]; rfl, HE.out.2⟩
    · have HL : Hid (gmL V x = [51, 51, x 12, x 13, x 14, x 15]) := if_neg h4
      have f1 : (V == 4) = false := by simp [h4]
      clear h4
      have b12 : w5.cell? ⟨A, 12, none⟩ = some (.int .u8 (x 12 : Nat)) := HA5.out.cell 12
      have b13 : w5.cell? ⟨A, 13, none⟩ = some (.int .u8 (x 13 : Nat)) := HA5.out.cell 13
      have b14 : w5.cell? ⟨A, 14, none⟩ = some (.int .u8 (x 14 : Nat)) := HA5.out.cell 14
      have b15 : w5.cell? ⟨A, 15, none⟩ = some (.int .u8 (x 15 : Nat)) := HA5.out.cell 15
      go_wp2_with (first | (refine wpList_bmac6 (.const (.int .u8 51)) (.const (.int .u8 51)) (.tmp 23) (.tmp 25) (.tmp 27) (.tmp 29) rfl (x 12) (x 13) (x 14) (x 15) rfl rfl rfl rfl rfl rfl rfl ?_) | (refine wpList_store_mac (.tmp 2) (.tmp 30) rfl rfl R mz (bt [51, 51, x 12, x 13, x 14, x 15]) rfl rfl H5.out.2.1 rfl ?_))
      intro wE hRE kE
      have HE : Hid (MacAt wE R (bt [51, 51, x 12, x 13, x 14, x 15]) ∧ Below w.heap.size w wE) := ⟨hRE, H5.out.2.2.trans (kE.below (fun q e => by have e' : q = R := e; have := HBR.out; omega) H5.out.2.2.size)⟩
      clear hRE kE
      go_wp2
      (try simp only [Exit.inBlock, Exit.then])
      refine bodyPost_ret (results_mac_t rfl _ _ R (bt [51, 51, x 12, x 13, x 14, x 15]) rfl HE.out.1) rfl ?_
      exact ⟨by rw [HC.out, HL.out]; rfl, HE.out.2⟩
  · have HC : Hid (gmO V x = .tuple #[.agg (macC mz), .int .i64 40]) := gm_no hc
    have e1 : (((clR V x : Nat) : Int) != 3) = true := by simp; omega
    have e2 : ¬ ((clR V x : Nat) : Int) = 3 := by omega
    clear hc
    go_wp2_with (first | (refine wpList_store_mac (.tmp 2) (.tmp 8) rfl rfl R mz mz rfl rfl H3.out.2.1 rfl ?_))
    intro wE hRE kE
    have HE : Hid (MacAt wE R mz ∧ Below w.heap.size w wE) := ⟨hRE, H3.out.2.2.trans (kE.below (fun q e => by have e' : q = R := e; have := HBR.out; omega) H3.out.2.2.size)⟩
    clear hRE kE
    go_wp2
    (try simp only [Exit.inBlock, Exit.then])
    refine bodyPost_ret (results_mac_t rfl _ _ R mz rfl HE.out.1) rfl ?_
    exact ⟨by rw [HC.out]; rfl, HE.out.2⟩
set_option maxHeartbeats 1600000 in
set_option maxRecDepth 100000 in
theorem gmacR_any (V : Int) (x : Nat → Nat) (w : World) (hx : ∀ i, i < 16 → x i < 256) : Calls Tryz.prog 26 #[.agg (ipCells V x)] w fun r w' => r = .returned (gmO V x) ∧ Below w.heap.size w w' := by
  have HX : Hid (∀ i, i < 16 → x i < 256) := hx
  clear hx
  go_enter Tryz.func26, Tryz.ntmps26
  go_wp2_with (refine wpList_box_ipN (.tmp 0) rfl V x rfl rfl ?_)
  intro B W1 HB1 hI bI
  go_wp2_with (refine wpList_nil_macN rfl rfl ?_)
  intro R W2 HR1 hR bR
  have HBR : Hid (w.heap.size ≤ B ∧ B < R ∧ W2.heap.size = R + 1) := ⟨by have := HB1.out; omega, by have := HB1.out; have := HR1.out; omega, HR1.out.2⟩
  have H2 : Hid (IprAt W2 B V x ∧ MacAt W2 R mz ∧ Below w.heap.size w W2) := ⟨hI.below bR, hR, bthen bI bR⟩
  clear hI bI hR bR HB1 HR1
  go_wp2_with (refine wpList_load_ipr (.tmp 1) rfl B V x rfl H2.out.1 rfl ?_)
  refine (classR_any V x W2 HX.out).mono ?_
  rintro e w3 ⟨rfl, hb⟩
  have H3 : Hid (IprAt w3 B V x ∧ MacAt w3 R mz ∧ Below w.heap.size w w3) := ⟨H2.out.1.below hb, H2.out.2.1.below hb, H2.out.2.2.trans (hb.mono H2.out.2.2.size)⟩
  clear hb H2
  by_cases hc : clR V x = 3
  · have HC : Hid (gmO V x = .tuple #[.agg (macC (bt (gmL V x))), .int .i64 0]) := gm_yes hc
    have e1 : (((clR V x : Nat) : Int) != 3) = false := by rw [hc]; rfl
    have e2 : ((clR V x : Nat) : Int) = 3 := by omega
    clear hc
    have k0 : w3.cell? ⟨B, 0, none⟩ = some (.int .i64 V) := H3.out.1.cell 0
    have H5 : Hid (IprAt w3 B V x ∧ MacAt w3 R mz ∧ Below w.heap.size w w3) := H3.out
    clear H3
    by_cases h4 : V = 4
    · subst h4
      have HL : Hid (gmL 4 x = [1, 0, 94, x 1 % 128, x 2, x 3]) := if_pos rfl
      have b1 : w3.cell? ⟨B, 2, none⟩ = some (.int .u8 (x 1 : Nat)) := by have h := H5.out.1.byte 1 (by decide); rw [Nat.add_comm] at h; exact h
      have b2 : w3.cell? ⟨B, 3, none⟩ = some (.int .u8 (x 2 : Nat)) := by have h := H5.out.1.byte 2 (by decide); rw [Nat.add_comm] at h; exact h
      have b3 : w3.cell? ⟨B, 4, none⟩ = some (.int .u8 (x 3 : Nat)) := by have h := H5.out.1.byte 3 (by decide); rw [Nat.add_comm] at h; exact h
      go_wp2_with (first | (refine wpList_bmac4 (.const (.int .u8 1)) (.const (.int .u8 0)) (.const (.int .u8 94)) (.tmp 16) (.tmp 19) (.tmp 22) rfl (x 1 % 128) (x 2) (x 3) rfl rfl rfl rfl rfl rfl rfl ?_) | (refine wpList_store_mac (.tmp 2) (.tmp 23) rfl rfl R mz (bt [1, 0, 94, x 1 % 128, x 2, x 3]) rfl rfl H5.out.2.1 rfl ?_))
      intro wE hRE kE
      have HE : Hid (MacAt wE R (bt [1, 0, 94, x 1 % 128, x 2, x 3]) ∧ Below w.heap.size w wE) := ⟨hRE, H5.out.2.2.trans (kE.below (fun q e => by have e' : q = R := e; have := HBR.out; omega) H5.out.2.2.size)⟩
      clear hRE kE
      go_wp2
      (try simp only [Exit.inBlock, Exit.then])
      refine bodyPost_ret (results_mac_t rfl _ _ R (bt [1, 0, 94, x 1 % 128, x 2, x 3]) rfl HE.out.1) rfl ?_
      exact ⟨by rw [HC.out, HL.out]; rfl, HE.out.2⟩
    · have HL : Hid (gmL V x = [51, 51, x 12, x 13, x 14, x 15]) := if_neg h4
      have f1 : (V == 4) = false := by simp [h4]
      clear h4
      have b12 : w3.cell? ⟨B, 13, none⟩ = some (.int .u8 (x 12 : Nat)) := by have h := H5.out.1.byte 12 (by decide); rw [Nat.add_comm] at h; exact h
      have b13 : w3.cell? ⟨B, 14, none⟩ = some (.int .u8 (x 13 : Nat)) := by have h := H5.out.1.byte 13 (by decide); rw [Nat.add_comm] at h; exact h
      have b14 : w3.cell? ⟨B, 15, none⟩ = some (.int .u8 (x 14 : Nat)) := by have h := H5.out.1.byte 14 (by decide); rw [Nat.add_comm] at h; exact h
      have b15 : w3.cell? ⟨B, 16, none⟩ = some (.int .u8 (x 15 : Nat)) := by have h := H5.out.1.byte 15 (by decide); rw [Nat.add_comm] at h; exact h
      go_wp2_with (first | (refine wpList_bmac6 (.const (.int .u8 51)) (.const (.int .u8 51)) (.tmp 26) (.tmp 29) (.tmp 32) (.tmp 35) rfl (x 12) (x 13) (x 14) (x 15) rfl rfl rfl rfl rfl rfl rfl ?_) | (refine wpList_store_mac (.tmp 2) (.tmp 36) rfl rfl R mz (bt [51, 51, x 12, x 13, x 14, x 15]) rfl rfl H5.out.2.1 rfl ?_))
      intro wE hRE kE
      have HE : Hid (MacAt wE R (bt [51, 51, x 12, x 13, x 14, x 15]) ∧ Below w.heap.size w wE) := ⟨hRE, H5.out.2.2.trans (kE.below (fun q e => by have e' : q = R := e; have := HBR.out; omega) H5.out.2.2.size)⟩
      clear hRE kE
      go_wp2
      (try simp only [Exit.inBlock, Exit.then])
      refine bodyPost_ret (results_mac_t rfl _ _ R (bt [51, 51, x 12, x 13, x 14, x 15]) rfl HE.out.1) rfl ?_
      exact ⟨by rw [HC.out, HL.out]; rfl, HE.out.2⟩
  · have HC : Hid (gmO V x = .tuple #[.agg (macC mz), .int .i64 40]) := gm_no hc
    have e1 : (((clR V x : Nat) : Int) != 3) = true := by simp; omega
    have e2 : ¬ ((clR V x : Nat) : Int) = 3 := by omega
    clear hc
    go_wp2_with (first | (refine wpList_store_mac (.tmp 2) (.tmp 9) rfl rfl R mz mz rfl rfl H3.out.2.1 rfl ?_))
    intro wE hRE kE
    have HE : Hid (MacAt wE R mz ∧ Below w.heap.size w wE) := ⟨hRE, H3.out.2.2.trans (kE.below (fun q e => by have e' : q = R := e; have := HBR.out; omega) H3.out.2.2.size)⟩
    clear hRE kE
    go_wp2
    (try simp only [Exit.inBlock, Exit.then])
    refine bodyPost_ret (results_mac_t rfl _ _ R mz rfl HE.out.1) rfl ?_
    exact ⟨by rw [HC.out]; rfl, HE.out.2⟩
end Go.Proofs.YteldiggaooeeeaaGreatDoor
