/-
  Layer 4: link addresses; addr.PrintMac.
-/
import Derived.Test.YteldiggaooeeeaaGreatDoorAdG4
namespace Go.Proofs.YteldiggaooeeeaaGreatDoor
open Go.RowKit Go.Maps

def macC (m : Nat → Nat) : Array Value := #[.int .u8 (m 0 : Nat), .int .u8 (m 1 : Nat), .int .u8 (m 2 : Nat), .int .u8 (m 3 : Nat), .int .u8 (m 4 : Nat), .int .u8 (m 5 : Nat)]
def mz : Nat → Nat := fun _ => 0
theorem Tryz.size_mac : (Tryz.prog.info? 40).map (·.size) = some 6 := by kernel_rfl
def MacAt (w : World) (O : Nat) (mv : Nat → Nat) : Prop := w.heap[O]? = some (.cells (macC mv) 40 (0, 0))
section
variable {w : World} {O : Nat} {mv : Nat → Nat} (k : MacAt w O mv)
include k
theorem MacAt.lt : O < w.heap.size := (Array.getElem?_eq_some_iff.1 k).1
theorem MacAt.ch {S : Nat → Prop} {w' : World} (c : Ch S w w') (hS : ¬ S O) : MacAt w' O mv := (c.block O k.lt hS).trans k
theorem MacAt.below {w' : World} (c : Below w.heap.size w w') : MacAt w' O mv := (c.block O k.lt).trans k
theorem MacAt.cell (i : Nat) : w.cell? ⟨O, i, none⟩ = (macC mv)[i]? := by unfold MacAt at k; simp [World.cell?, k]
theorem MacAt.fz (j : Nat) : w.frozen? ⟨O, j, none⟩ = false := by unfold MacAt at k; simp [World.frozen?, k]
theorem MacAt.range (o n : Nat) : w.rangeAt O o (((macC mv).extract o (o + n)).toList) := World.rangeAt_of_block k o n
end
theorem mac_new (w : World) (mv : Nat → Nat) : MacAt (w.alloc (.cells (macC mv) 40)) w.heap.size mv := heap_alloc_new _ _
theorem wpList_load_mac {ops : Array Oper} {rest : List Oper} {o : Oper} {a : Act} {w : World} {Q : Exit → Act → World → Prop} (x : Operand) (ho : o.op = .load 40 x) (O : Nat) (mv : Nat → Nat) (hx : a.eval x = .pointer (some ⟨O, 0, none⟩)) (hb : MacAt w O mv)
    (hw : Region.wanted o (yielded ops a.tmps) = true) (hh : wpList Tryz.prog ops Q rest (a.put o.dst (.agg (macC mv))) w) : wpList Tryz.prog ops Q (o :: rest) a w := by
  refine wpList_step fun K hK => ?_
  rw [if_pos hw]
  exact wp_load_row 40 x ho O hx _ _ _ _ hb Tryz.underlying40 rfl Tryz.size_mac (hK _ _ hh)
theorem wpList_store_mac {ops : Array Oper} {rest : List Oper} {o : Oper} {a : Act} {w : World} {Q : Exit → Act → World → Prop} (x y : Operand) (ho : o.op = .store 40 x y) (hd : o.dst = none) (O : Nat) (mv : Nat → Nat) (mv' : Nat → Nat) (hx : a.eval x = .pointer (some ⟨O, 0, none⟩)) (hy : a.eval y = .agg (macC mv')) (hb : MacAt w O mv)
    (hw : Region.wanted o (yielded ops a.tmps) = true) (hh : ∀ w', MacAt w' O mv' → Ch (fun q => q = O) w w' → wpList Tryz.prog ops Q rest a w') : wpList Tryz.prog ops Q (o :: rest) a w := by
  refine wpList_step fun K hK => ?_
  rw [if_pos hw]
  refine wp_store_row 40 x y ho O (macC mv') hx hy _ (macC mv) hb Tryz.size_mac rfl (by simp [macC, Value.oneCell']) (hK _ _ ?_)
  rw [hd]
  refine hh _ (setRow_heap w O _ _ _ _ hb) ⟨rfl, rfl, rfl, ?_, ?_⟩
  · simp [World.setRow]
  · intro k hk hne
    simp only [World.setRow]
    rw [Array.getElem?_modify, if_neg (fun e => hne e.symm)]
theorem wpList_alloc_mac {ops : Array Oper} {rest : List Oper} {o : Oper} {a : Act} {w : World} {Q : Exit → Act → World → Prop} (ho : o.op = .alloc 40) (hw : Region.wanted o (yielded ops a.tmps) = true)
    (h : wpList Tryz.prog ops Q rest (a.put o.dst (.pointer (some ⟨w.heap.size, 0, none⟩))) (w.alloc (.cells (macC mz) 40))) : wpList Tryz.prog ops Q (o :: rest) a w := by
  refine wpList_step fun K hK => ?_
  rw [if_pos hw]
  have hrun : (execOp a.eval o).run Tryz.prog w = .ok (.value (.pointer (some ⟨w.heap.size, 0, none⟩))) (w.alloc (.cells (macC mz) 40)) := by
    obtain ⟨dst, op, type, pos, after, guard⟩ := o
    simp only at ho
    subst ho
    simp only [execOp]
    go_simp
    rfl
  unfold Oper.wp
  rw [hrun]
  exact hK _ _ h
theorem yields_mac {ops : Array Oper} {o : Oper} {a : Act} {S : World → Prop} (x : Operand) (ho : o.op = .load 40 x) (O off : Nat) (mv : Nat → Nat) (hx : a.eval x = .pointer (some ⟨O, off, none⟩)) (hw : Region.wanted o (yielded ops a.tmps) = true) (hS : ∀ w, S w → w.rangeAt O off (macC mv).toList) : YieldsIf Tryz.prog ops S o (.agg (macC mv)) a :=
  yieldsIf_load_mid hw 40 x ho O off hx (macC mv).toList _ hS Tryz.underlying40 rfl Tryz.size_mac
theorem wpList_mid_mac {ops : Array Oper} {rest : List Oper} {o : Oper} {a : Act} {w : World} {Q : Exit → Act → World → Prop} (x : Operand) (ho : o.op = .load 40 x) (O off : Nat) (mv : Nat → Nat) (hx : a.eval x = .pointer (some ⟨O, off, none⟩)) (hb : w.rangeAt O off (macC mv).toList)
    (hw : Region.wanted o (yielded ops a.tmps) = true) (h : wpList Tryz.prog ops Q rest (a.put o.dst (.agg (macC mv))) w) : wpList Tryz.prog ops Q (o :: rest) a w := by
  refine wpList_step fun K hK => ?_
  rw [if_pos hw]
  exact wp_load_mid 40 x ho O off hx (macC mv).toList _ hb Tryz.underlying40 rfl Tryz.size_mac (hK _ _ h)
theorem results_mac {fn : Func} {p : Tmp} (h : fn.results = #[.cell p 40]) (tmps : Array Value) (w : World) (O : Nat) (mv : Nat → Nat) (hp : tmps.getD p undef = .pointer (some ⟨O, 0, none⟩)) (hb : MacAt w O mv) :
    (results fn tmps).run Tryz.prog w = .ok (.agg (macC mv)) w :=
  results_cell_row h tmps w O _ (macC mv) _ _ hp hb Tryz.underlying40 rfl Tryz.size_mac
def same6 (x y : Nat → Nat) : Bool := decide (x 0 = y 0 ∧ x 1 = y 1 ∧ x 2 = y 2 ∧ x 3 = y 3 ∧ x 4 = y 4 ∧ x 5 = y 5)
set_option maxHeartbeats 1600000 in
set_option maxRecDepth 100000 in
theorem eq6 (x y : Nat → Nat) (w : World) (d : Nat) : (Op.equalIn (d + 2) 40 (.agg (macC x)) (.agg (macC y))).run Tryz.prog w = .ok (same6 x y) w := by
  have u5 := Tryz.underlying5
  have a5 := Tryz.isAgg5
  have z5 := Tryz.sizeOf5
  rw [show (d + 2 : Nat) = (d + 1) + 1 from rfl, Op.equalIn]
  unfold macC
  simp only [Sem.run_bind, run_underlying Tryz.underlying40, Result.andThen_ok]
  simp only [Std.Legacy.Range.forIn_eq_forIn_range', Std.Legacy.Range.size, Nat.sub_zero, Nat.add_sub_cancel, Nat.div_one, List.range'_succ, List.range'_zero, List.forIn_cons, List.forIn_nil]
  go_simp
  unfold same6
  (repeat' split) <;> simp_all <;> omega
theorem eq6top (x y : Nat → Nat) (w : World) : (Op.equalIn 10000 40 (.agg (macC x)) (.agg (macC y))).run Tryz.prog w = .ok (same6 x y) w := eq6 x y w 9998
theorem Tryz.macGuard : Tryz.prog.eqGuardType Tryz.prog.depth 40 = false := by kernel_rfl
theorem wpList_eql_mac {ops : Array Oper} {rest : List Oper} {o : Oper} {a : Act} {w : World} {Q : Exit → Act → World → Prop} (X Y : Operand) (ho : o.op = .binOp .eql 40 X Y 40) (x y : Nat → Nat) (hx : a.eval X = .agg (macC x)) (hy : a.eval Y = .agg (macC y)) (b : Bool) (hb : same6 x y = b)
    (hw : Region.wanted o (yielded ops a.tmps) = true) (h : wpList Tryz.prog ops Q rest (a.put o.dst (.bool b)) w) : wpList Tryz.prog ops Q (o :: rest) a w := by
  refine wpList_step fun K hK => ?_
  rw [if_pos hw]
  have hrun : (execOp a.eval o).run Tryz.prog w = .ok (.value (.bool b)) w := by
    subst hb
    obtain ⟨dst, op, type, pos, after, guard⟩ := o
    simp only at ho
    subst ho
    simp only [execOp, Sem.run_bind, Sem.run_pure, hx, hy, run_eqGuard_agg w .eql 40 _ _ _ _ Tryz.macGuard, Result.andThen_ok, run_eql_struct, eq6top]
  unfold Oper.wp
  rw [hrun]
  exact hK _ _ h
theorem yields_sBu {ops : Array Oper} {S : World → Prop} {o : Oper} {a : Act} (x y : Operand) (ho : o.op = .index 9 x y) (k : IntKind) (s : ByteArray) (p : Nat) (z : Int) (hx : a.eval x = .string s) (hy : a.eval y = .int k z) (hz : z = (p : Int)) (hp : p < s.size) (hw : Region.wanted o (yielded ops a.tmps) = true) : YieldsIf Tryz.prog ops S o (.int .u8 (sB s p : Nat)) a := by
  refine .inl ⟨hw, fun w _ => ?_⟩
  obtain ⟨dst, op, type, pos, after, guard⟩ := o
  simp only at ho
  subst ho
  simp only [execOp, Sem.run_bind, hx, hy, hz]
  rw [run_index_string w 9 s k (p : Int) Tryz.underlying9, dif_pos (by omega)]
  simp only [Result.andThen_ok, Int.toNat_natCast, sB_get s p hp]
  rfl
def dgM : ByteArray := ⟨#[48, 49, 50, 51, 52, 53, 54, 55, 56, 57, 97, 98, 99, 100, 101, 102]⟩
theorem dgM_at {k : Nat} (h : k < 16) : sB dgM k = hd k := by
  have : ∀ i : Fin 16, sB dgM i.val = hd i.val := by decide +kernel
  exact this ⟨k, h⟩
/-- a byte in two digits -/
def mcD (b : Nat) : List Nat := [hd (b / 16), hd (b % 16)]
/-- the text of the first k bytes of a link address -/
def prM (m : Nat → Nat) (k : Nat) : List Nat := jn ((List.range k).map fun i => mcD (m i))
theorem jn_snoc : ∀ (L : List (List Nat)) (a : List Nat), L ≠ [] → jn (L ++ [a]) = jn L ++ 58 :: a
  | [], a, h => absurd rfl h
  | [b], a, _ => rfl
  | b :: c :: t, a, _ => by
    have h := jn_snoc (c :: t) a (by simp)
    show b ++ 58 :: jn (c :: t ++ [a]) = _
    rw [h, jn_two, List.append_assoc]
    rfl
theorem prM_succ (m : Nat → Nat) (k : Nat) : prM m (k + 1) = (if k = 0 then [] else prM m k ++ [58]) ++ mcD (m k) := by
  unfold prM
  rw [List.range_succ, List.map_append]
  by_cases h : k = 0
  · subst h; rfl
  · rw [if_neg h, List.map_cons, List.map_nil, jn_snoc _ _ (by simp; exact h)]
    simp
theorem prM_len (m : Nat → Nat) : ∀ k, (prM m k).length = 3 * k - 1
  | 0 => rfl
  | k + 1 => by
    rw [prM_succ]
    by_cases h : k = 0
    · subst h; rfl
    · rw [if_neg h, List.length_append, List.length_append, prM_len m k]
      simp [mcD]; omega
theorem prM_lt {m : Nat → Nat} (hm : ∀ i, i < 6 → m i < 256) : ∀ k, k ≤ 6 → ∀ c ∈ prM m k, c < 256
  | 0, _, c, hc => by cases hc
  | k + 1, hk, c, hc => by
    rw [prM_succ] at hc
    have h1 := hm k (by omega)
    have h2 := prM_lt hm k (by omega)
    have h3 := hd_lt (show m k / 16 < 16 by omega)
    have h4 := hd_lt (show m k % 16 < 16 by omega)
    by_cases h : k = 0
    · rw [if_pos h] at hc
      simp [mcD] at hc
      rcases hc with rfl | rfl <;> assumption
    · rw [if_neg h] at hc
      simp [mcD] at hc
      rcases hc with hc | rfl | rfl | rfl
      · exact h2 c hc
      · decide
      · assumption
      · assumption
theorem u8_and15 (b : Nat) (h : b < 256) : bits BinOp.and IntKind.u8 (b : Int) 15 = ((b % 16 : Nat) : Int) := by
  have h1 := Go.u8_and_nat b 15 h (by omega)
  rw [show ((15 : Nat) : Int) = 15 from rfl] at h1
  rw [h1]
  congr 1
  exact Nat.and_two_pow_sub_one_eq_mod b 4
theorem u8_shr4 (b : Nat) : (b : Int).fdiv (2 ^ min (Int.toNat 4) IntKind.u8.bits) = ((b / 16 : Nat) : Int) := by
  rw [show (2 ^ min (Int.toNat 4) IntKind.u8.bits : Int) = 16 from rfl, Int.fdiv_eq_ediv_of_nonneg _ (by omega)]
  omega
theorem run_idx_mac (m : Nat → Nat) (w : World) (k : Nat) (h : k < 6) : (Instr.index 40 (.agg (macC m)) (.int .i64 (k : Int))).run Tryz.prog w = .ok (.int .u8 (m k : Nat)) w := by
  rcases (show k = 0 ∨ k = 1 ∨ k = 2 ∨ k = 3 ∨ k = 4 ∨ k = 5 by omega) with rfl | rfl | rfl | rfl | rfl | rfl <;> kernel_rfl
theorem wpList_idx_mac {ops : Array Oper} {rest : List Oper} {o : Oper} {a : Act} {w : World} {Q : Exit → Act → World → Prop} (x y : Operand) (ho : o.op = .index 40 x y) (m : Nat → Nat) (k : Nat) (hx : a.eval x = .agg (macC m)) (hy : a.eval y = .int .i64 (k : Int)) (hk : k < 6) (hw : Region.wanted o (yielded ops a.tmps) = true)
    (h : wpList Tryz.prog ops Q rest (a.put o.dst (.int .u8 (m k : Nat))) w) : wpList Tryz.prog ops Q (o :: rest) a w := by
  refine wpList_step fun K hK => ?_
  rw [if_pos hw]
  have hrun : (execOp a.eval o).run Tryz.prog w = .ok (.value (.int .u8 (m k : Nat))) w := by
    obtain ⟨dst, op, type, pos, after, guard⟩ := o
    simp only at ho
    subst ho
    simp only [execOp, Sem.run_bind, hx, hy, run_idx_mac m w k hk, Result.andThen_ok]
    rfl
  unfold Oper.wp
  rw [hrun]
  exact hK _ _ h
theorem cellsTwo (w : World) (u v : Value) (T : TypeId) : ∀ j x, [u, v][j]? = some x → (w.alloc (.cells #[u, v] T)).cell? ((⟨w.heap.size, 0, none⟩ : Addr).add j) = some x := by
  intro j x h
  rcases j with _ | _ | j
  · simp at h
    subst h
    exact World.cell?_alloc_at _ _ _ _ rfl
  · simp at h
    subst h
    exact World.cell?_alloc_at _ _ _ _ rfl
  · simp at h
def bV (L : List Nat) : List Value := L.map fun n => Value.int .u8 (n : Nat)
set_option maxHeartbeats 1600000 in
set_option maxRecDepth 100000 in
theorem printMac_any (m : Nat → Nat) (w : World) (hm : ∀ i, i < 6 → m i < 256) : Calls Tryz.prog 50 #[.agg (macC m)] w fun r w' => r = .returned (.string (txB (prM m 6))) ∧ Below w.heap.size w w' := by
  obtain ⟨i0, hi, hz0, hz1, hz2⟩ := info_parts Tryz.infoByte
  have HI : Hid (Tryz.prog.info? 5 = some i0 ∧ i0.zero = some (.int .u8 0) ∧ i0.size = 1 ∧ i0.bytes = 1) := ⟨hi, hz0, hz1, hz2⟩
  have HM : Hid (∀ i, i < 6 → m i < 256) := hm
  clear hi hz0 hz1 hz2 hm
  have hb := mac_new w m
  have bel : Below w.heap.size w (w.alloc (.cells (macC m) 40)) := (Below.refl _ _).alloc (Nat.le_refl _) _
  obtain ⟨CX, hC⟩ : ∃ C, C = macC m := ⟨_, rfl⟩
  obtain ⟨W, hW⟩ : ∃ W_, W_ = w.alloc (.cells (macC m) 40) := ⟨_, rfl⟩
  rw [← hW] at hb bel
  have HSZX : Hid (W.heap.size = w.heap.size + 1) := by show _ = _; rw [hW, World.size_alloc]
  obtain ⟨B, hB⟩ : ∃ B, B = w.heap.size := ⟨_, rfl⟩
  rw [← hB] at hb
  have HBX : Hid (MacAt W B m) := hb
  rw [← hC] at hW ⊢
  have HOX : Hid (w.heap.size = B) := hB.symm
  have HLX : Hid (Below w.heap.size w W) := bel
  have HWX : Hid (w.alloc (.cells CX 40) = W) := hW.symm
  clear hb hW hB hC bel
  go_enter Tryz.func50, Tryz.ntmps50
  go_upto_region 2 with fail
  rw [HOX.out, HWX.out]
  go_wp2_with (refine wpList_load_mac (.tmp 1) rfl B m rfl HBX.out rfl ?_)
  go_loopw [3, 7] (fun lv iv wr => ∃ (k c : Nat) (a : Option Addr), k ≤ 6 ∧ iv = .int .i64 (k : Nat) ∧ lv = .slice a (3 * k - 1) c ∧ Hid (wr.ownsRow w.heap.size 5 1 (.slice a (3 * k - 1) c) (3 * k - 1) (bV (prM m k)) ∧ Below w.heap.size w wr)) (fun _ iv _ => 6 - (intOf iv).toNat)
  case atStart => exact ⟨0, 0, none, by omega, rfl, rfl, World.ownsRow_nil _ _ _ _, HLX.out⟩
  case round =>
    obtain ⟨k, c, a, hk6, rfl, rfl, HO⟩ := hrel
    have HK6 : Hid (k ≤ 6) := hk6
    obtain ⟨n, hn⟩ : ∃ n, 3 * k - 1 = n := ⟨_, rfl⟩
    have HN : Hid (3 * k - 1 = n) := hn
    rw [hn]
    clear hk6 hn
    by_cases hlt : k < 6
    · have p1 : decide ((k : Int) < 6) = true := decide_eq_true (by omega)
      have p2 : decide (k < 6) = true := decide_eq_true hlt
      have p3 : (k : Int) < 6 := by omega
      have p4 : (0 : Int) ≤ (k : Int) := by omega
      have x3 : IntKind.i64.wrap ((k : Int) + 1) = (k : Int) + 1 := i64_s _ (by omega) (by omega)
      have HLT : Hid (k < 6) := hlt
      clear hlt
      have IDX := HLT
      by_cases h0 : k = 0
      · have q1 : decide ((0 : Int) < (k : Int)) = false := decide_eq_false (by omega)
        have q2 : decide (0 < k) = false := decide_eq_false (by omega)
        have HT : Hid (bV (prM m k) = bV [] ∧ n = 0 ∧ prM m (k + 1) = [] ++ mcD (m k)) := ⟨by rw [h0]; rfl, by have := HN.out; omega, by rw [prM_succ, if_pos h0]⟩
        have HR0 : Hid (wr.ownsRow w.heap.size 5 1 (.slice a n c) n (bV []) ∧ Below w.heap.size w wr ∧ n + 2 = 3 * (k + 1) - 1) := ⟨by have h1 := HO.out.1; rw [HT.out.1, HN.out] at h1; exact h1, HO.out.2, by have := HT.out; omega⟩
        clear h0
        go_upto_region 7 with (refine wpList_idx_mac (.tmp 6) (.tmp 7) rfl m k rfl rfl HLT.out rfl ?_)
        refine MixH.start (fun A => Below w.heap.size w A) (by kernel_rfl) ?_
        obtain ⟨wA, hwA⟩ : ∃ W_, W_ = wr.drew := ⟨_, rfl⟩
        have bdr : Below wr.heap.size wr wA := by rw [hwA]; exact (Below.refl _ _).drew
        have hS : Below w.heap.size w wA := HR0.out.2.1.trans (bdr.mono HR0.out.2.1.size)
        have HRA : Hid (wA.ownsRow w.heap.size 5 1 (.slice a (n) c) (n) (bV ([]))) := (Ch.ofBelow (S := fun _ => False) bdr).owns HR0.out.1 (fun _ _ h => h)
        rw [← hwA]
        clear hwA bdr
        refine MixH.takes [true, true, true, false, true, true] 5 (by kernel_rfl) (by kernel_rfl) (by decide) (by kernel_rfl) hS (fun K hK => ?_)
        simp only [Mix.pick]
        repeat (go_big_quiet_step (fail))
        refine wpQuiet_nil (hK _ ?_)
        clear hK K
        refine MixH.take 4 3 _ (.int .u8 (sB dgM (m k / 16) : Nat)) rfl (by kernel_rfl) (by kernel_rfl) (by kernel_rfl) (by kernel_rfl) (yields_sBu (.const (.string dgM)) (.tmp 18) rfl .u8 dgM (m k / 16) _ rfl rfl (by omega) (Nat.lt_of_lt_of_le (show m k / 16 < 16 by have := HM.out k HLT.out; omega) (Nat.le_refl _)) rfl) hS (fun a' ha => ?_)
        simp only [Act.put, List.setIfInBounds_toArray, List.set_cons_succ, List.set_cons_zero] at ha
        subst ha
        refine MixH.take 3 6 _ (.int .u8 (sB dgM (m k % 16) : Nat)) rfl (by kernel_rfl) (by kernel_rfl) (by kernel_rfl) (by kernel_rfl) (yields_sBu (.const (.string dgM)) (.tmp 21) rfl .u8 dgM (m k % 16) _ rfl rfl (u8_and15 (m k) (HM.out k HLT.out)) (Nat.lt_of_lt_of_le (show m k % 16 < 16 by omega) (Nat.le_refl _)) rfl) hS (fun a' ha => ?_)
        simp only [Act.put, List.setIfInBounds_toArray, List.set_cons_succ, List.set_cons_zero] at ha
        subst ha
        refine MixH.one [false, false, false, false, false, false, false, true] 2 7 _ rfl rfl (by kernel_rfl) (by kernel_rfl) (fun K hK => ?_)
        simp only [Mix.pick]
        go_wp2_with fail
        obtain ⟨w3, hw3⟩ : ∃ W_, W_ = wA.alloc (.cells #[.int .u8 (sB dgM (m k / 16) : Nat), .int .u8 (sB dgM (m k % 16) : Nat)] 5) := ⟨_, rfl⟩
        have b3 : Below wA.heap.size wA w3 := by rw [hw3]; exact (Below.refl _ _).alloc (Nat.le_refl _) _
        have HC3 : Hid (∀ j u, [Value.int .u8 (sB dgM (m k / 16) : Nat), Value.int .u8 (sB dgM (m k % 16) : Nat)][j]? = some u → w3.cell? ((⟨wA.heap.size, 0, none⟩ : Addr).add j) = some u) := by rw [hw3]; exact cellsTwo wA _ _ _
        have HZ3 : Hid (w.heap.size ≤ wA.heap.size ∧ wA.heap.size < w3.heap.size) := ⟨hS.size, by rw [hw3, World.size_alloc]; omega⟩
        have hS : Below w.heap.size w w3 := hS.trans (b3.mono hS.size)
        have HR3 : Hid (w3.ownsRow w.heap.size 5 1 (.slice a (n) c) (n) (bV ([]))) := (Ch.ofBelow (S := fun _ => False) b3).owns HRA.out (fun _ _ h => h)
        rw [← hw3]
        clear hw3 b3
        refine ⟨rfl, hK _ _ hS ?_⟩
        clear hK K
        refine MixH.one [false, false, false, false, false, false, false, false, true] 1 8 _ rfl rfl (by kernel_rfl) (by kernel_rfl) (fun K hK => ?_)
        simp only [Mix.pick]
        go_wp2_with (at_builtin; refine wpList_append_own_at _ rfl (.tmp 16) (.tmp 23) 50 rfl w.heap.size 5 i0 (.int .u8 0) 1 1 Tryz.underlying50 HI.out.1 HI.out.2.1 HI.out.2.2.1 HI.out.2.2.2 rfl (by decide) _ _ _ rfl HR3.out ⟨wA.heap.size, 0, none⟩ 2 2 [.int .u8 (sB dgM (m k / 16) : Nat), .int .u8 (sB dgM (m k % 16) : Nat)] rfl rfl HC3.out (by intro u hu; simp at hu; rcases hu with rfl | rfl <;> rfl) (by have := HR0.out.2.2; have := HLT.out; unfold maxLen; omega) (by have := HR0.out.2.2; have := HLT.out; omega) (by have := HZ3.out; omega) ?_)
        intro v4 w4 ho4 hg4 _ _
        obtain ⟨a4, c4, rfl⟩ := owns_shape ho4
        have HR4 : Hid (w4.ownsRow w.heap.size 5 1 (.slice a4 (n + 2) c4) (n + 2) (bV (prM m (k + 1)))) := by
          have h := ho4
          rw [dgM_at (by have := HM.out k HLT.out; omega), dgM_at (by omega)] at h
          rw [HT.out.2.2]
          have e : bV (([]) ++ mcD (m k)) = bV ([]) ++ [.int .u8 (hd (m k / 16) : Nat), .int .u8 (hd (m k % 16) : Nat)] := by simp [bV, mcD]
          show World.ownsRow _ _ _ _ _ _ _
          rw [e]
          exact h
        have hS : Below w.heap.size w w4 := hS.grown hg4 (by have := HZ3.out; omega) (fun q hq => (HR3.out.lt q hq).1)
        clear ho4 hg4
        refine ⟨rfl, hK _ _ hS ?_⟩
        clear hK K
        refine MixH.takes [false, false, false, false, false, false, false, false, false, true] 0 (by kernel_rfl) (by kernel_rfl) (by decide) (by kernel_rfl) hS (fun K hK => ?_)
        simp only [Mix.pick]
        repeat (go_big_quiet_step (fail))
        refine wpQuiet_nil (hK _ ?_)
        clear hK K
        refine MixH.done (by kernel_rfl) ?_
        have HS4 : Hid (Below w.heap.size w w4) := hS
        clear hS
        go_wp2
        go_roundw
        case rel => exact ⟨k + 1, c4, a4, HLT.out, by simp, by rw [← HR0.out.2.2], by rw [← HR0.out.2.2]; exact HR4.out, HS4.out⟩
        case measure => have := HLT.out; simp [intOf]; omega
      · have q1 : decide ((0 : Int) < (k : Int)) = true := decide_eq_true (by omega)
        have q2 : decide (0 < k) = true := decide_eq_true (by omega)
        have HT : Hid (prM m (k + 1) = (prM m k ++ [58]) ++ mcD (m k)) := by show _ = _; rw [prM_succ, if_neg h0]
        have HR : Hid (wr.ownsRow w.heap.size 5 1 (.slice a n c) n (bV (prM m k))) := by have h1 := HO.out.1; rw [HN.out] at h1; exact h1
        have HK0 : Hid (n + 1 + 2 = 3 * (k + 1) - 1) := by have := HN.out; show _ = _; omega
        clear h0
        go_upto_region 7 with (first | (refine wpList_idx_mac (.tmp 6) (.tmp 7) rfl m k rfl rfl HLT.out rfl ?_) | (at_builtin; refine wpList_append_own_at _ rfl (.tmp 13) (.tmp 14) 50 rfl w.heap.size 5 i0 (.int .u8 0) 1 1 Tryz.underlying50 HI.out.1 HI.out.2.1 HI.out.2.2.1 HI.out.2.2.2 rfl (by decide) _ _ _ rfl (HR.out.alloc _) ⟨wr.heap.size, 0, none⟩ 1 1 [.int .u8 58] rfl rfl (cellsOne _ _ _) (by intro u hu; simp at hu; subst hu; rfl) (by have := HK0.out; have := HLT.out; unfold maxLen; omega) (by have := HK0.out; have := HLT.out; omega) (by have := HO.out.2.size; simp; omega) ?_))
        intro v2 w2 ho2 hg2 _ _
        obtain ⟨a2, c2, rfl⟩ := owns_shape ho2
        have HB2 : Hid (Below w.heap.size w w2) := (HO.out.2.alloc HO.out.2.size _).grown hg2 (by have := HO.out.2.size; simp; omega) (fun q hq => (HR.out.lt q hq).1)
        have ho3 : w2.ownsRow w.heap.size 5 1 (.slice a2 (n + 1) c2) (n + 1) (bV (prM m k ++ [58])) := by rw [show bV (prM m k ++ [58]) = bV (prM m k) ++ [.int .u8 58] by simp [bV]]; exact ho2
        have HR2 : Hid (w2.ownsRow w.heap.size 5 1 (.slice a2 (n + 1) c2) (n + 1) (bV (prM m k ++ [58]))) := ho3
        clear ho2 hg2 ho3
        go_upto_region 7 with fail
        refine MixH.start (fun A => Below w.heap.size w A) (by kernel_rfl) ?_
        obtain ⟨wA, hwA⟩ : ∃ W_, W_ = w2.drew := ⟨_, rfl⟩
        have bdr : Below w2.heap.size w2 wA := by rw [hwA]; exact (Below.refl _ _).drew
        have hS : Below w.heap.size w wA := HB2.out.trans (bdr.mono HB2.out.size)
        have HRA : Hid (wA.ownsRow w.heap.size 5 1 (.slice a2 (n + 1) c2) (n + 1) (bV (prM m k ++ [58]))) := (Ch.ofBelow (S := fun _ => False) bdr).owns HR2.out (fun _ _ h => h)
        rw [← hwA]
        clear hwA bdr
        refine MixH.takes [true, true, true, false, true, true] 5 (by kernel_rfl) (by kernel_rfl) (by decide) (by kernel_rfl) hS (fun K hK => ?_)
        simp only [Mix.pick]
        repeat (go_big_quiet_step (fail))
        refine wpQuiet_nil (hK _ ?_)
        clear hK K
        refine MixH.take 4 3 _ (.int .u8 (sB dgM (m k / 16) : Nat)) rfl (by kernel_rfl) (by kernel_rfl) (by kernel_rfl) (by kernel_rfl) (yields_sBu (.const (.string dgM)) (.tmp 18) rfl .u8 dgM (m k / 16) _ rfl rfl (by omega) (Nat.lt_of_lt_of_le (show m k / 16 < 16 by have := HM.out k HLT.out; omega) (Nat.le_refl _)) rfl) hS (fun a' ha => ?_)
        simp only [Act.put, List.setIfInBounds_toArray, List.set_cons_succ, List.set_cons_zero] at ha
        subst ha
        refine MixH.take 3 6 _ (.int .u8 (sB dgM (m k % 16) : Nat)) rfl (by kernel_rfl) (by kernel_rfl) (by kernel_rfl) (by kernel_rfl) (yields_sBu (.const (.string dgM)) (.tmp 21) rfl .u8 dgM (m k % 16) _ rfl rfl (u8_and15 (m k) (HM.out k HLT.out)) (Nat.lt_of_lt_of_le (show m k % 16 < 16 by omega) (Nat.le_refl _)) rfl) hS (fun a' ha => ?_)
        simp only [Act.put, List.setIfInBounds_toArray, List.set_cons_succ, List.set_cons_zero] at ha
        subst ha
        refine MixH.one [false, false, false, false, false, false, false, true] 2 7 _ rfl rfl (by kernel_rfl) (by kernel_rfl) (fun K hK => ?_)
        simp only [Mix.pick]
        go_wp2_with fail
        obtain ⟨w3, hw3⟩ : ∃ W_, W_ = wA.alloc (.cells #[.int .u8 (sB dgM (m k / 16) : Nat), .int .u8 (sB dgM (m k % 16) : Nat)] 5) := ⟨_, rfl⟩
        have b3 : Below wA.heap.size wA w3 := by rw [hw3]; exact (Below.refl _ _).alloc (Nat.le_refl _) _
        have HC3 : Hid (∀ j u, [Value.int .u8 (sB dgM (m k / 16) : Nat), Value.int .u8 (sB dgM (m k % 16) : Nat)][j]? = some u → w3.cell? ((⟨wA.heap.size, 0, none⟩ : Addr).add j) = some u) := by rw [hw3]; exact cellsTwo wA _ _ _
        have HZ3 : Hid (w.heap.size ≤ wA.heap.size ∧ wA.heap.size < w3.heap.size) := ⟨hS.size, by rw [hw3, World.size_alloc]; omega⟩
        have hS : Below w.heap.size w w3 := hS.trans (b3.mono hS.size)
        have HR3 : Hid (w3.ownsRow w.heap.size 5 1 (.slice a2 (n + 1) c2) (n + 1) (bV (prM m k ++ [58]))) := (Ch.ofBelow (S := fun _ => False) b3).owns HRA.out (fun _ _ h => h)
        rw [← hw3]
        clear hw3 b3
        refine ⟨rfl, hK _ _ hS ?_⟩
        clear hK K
        refine MixH.one [false, false, false, false, false, false, false, false, true] 1 8 _ rfl rfl (by kernel_rfl) (by kernel_rfl) (fun K hK => ?_)
        simp only [Mix.pick]
        go_wp2_with (at_builtin; refine wpList_append_own_at _ rfl (.tmp 16) (.tmp 23) 50 rfl w.heap.size 5 i0 (.int .u8 0) 1 1 Tryz.underlying50 HI.out.1 HI.out.2.1 HI.out.2.2.1 HI.out.2.2.2 rfl (by decide) _ _ _ rfl HR3.out ⟨wA.heap.size, 0, none⟩ 2 2 [.int .u8 (sB dgM (m k / 16) : Nat), .int .u8 (sB dgM (m k % 16) : Nat)] rfl rfl HC3.out (by intro u hu; simp at hu; rcases hu with rfl | rfl <;> rfl) (by have := HK0.out; have := HLT.out; unfold maxLen; omega) (by have := HK0.out; have := HLT.out; omega) (by have := HZ3.out; omega) ?_)
        intro v4 w4 ho4 hg4 _ _
        obtain ⟨a4, c4, rfl⟩ := owns_shape ho4
        have HR4 : Hid (w4.ownsRow w.heap.size 5 1 (.slice a4 (n + 1 + 2) c4) (n + 1 + 2) (bV (prM m (k + 1)))) := by
          have h := ho4
          rw [dgM_at (by have := HM.out k HLT.out; omega), dgM_at (by omega)] at h
          rw [HT.out]
          have e : bV ((prM m k ++ [58]) ++ mcD (m k)) = bV (prM m k ++ [58]) ++ [.int .u8 (hd (m k / 16) : Nat), .int .u8 (hd (m k % 16) : Nat)] := by simp [bV, mcD]
          show World.ownsRow _ _ _ _ _ _ _
          rw [e]
          exact h
        have hS : Below w.heap.size w w4 := hS.grown hg4 (by have := HZ3.out; omega) (fun q hq => (HR3.out.lt q hq).1)
        clear ho4 hg4
        refine ⟨rfl, hK _ _ hS ?_⟩
        clear hK K
        refine MixH.takes [false, false, false, false, false, false, false, false, false, true] 0 (by kernel_rfl) (by kernel_rfl) (by decide) (by kernel_rfl) hS (fun K hK => ?_)
        simp only [Mix.pick]
        repeat (go_big_quiet_step (fail))
        refine wpQuiet_nil (hK _ ?_)
        clear hK K
        refine MixH.done (by kernel_rfl) ?_
        have HS4 : Hid (Below w.heap.size w w4) := hS
        clear hS
        go_wp2
        go_roundw
        case rel => exact ⟨k + 1, c4, a4, HLT.out, by simp, by rw [← HK0.out], by rw [← HK0.out]; exact HR4.out, HS4.out⟩
        case measure => have := HLT.out; simp [intOf]; omega
    · have HE : Hid (k = 6) := by have := HK6.out; show k = 6; omega
      have p1 : decide ((k : Int) < 6) = false := decide_eq_false (by omega)
      have p2 : decide (k < 6) = false := decide_eq_false hlt
      have p3 : ¬ (k : Int) < 6 := by omega
      clear hlt
      obtain rfl := HE.out
      obtain rfl : n = 17 := by have := HN.out; omega
      have kc : (convert 50 9 (.slice a 17 c)).run Tryz.prog wr = .ok (.string (txB (prM m 6))) wr := by
        have h1 := HO.out.1
        unfold bV at h1
        rw [toI_map] at h1
        obtain ⟨a', c', e1, hs, _⟩ := owns_seg h1
        simp only [Value.slice.injEq] at e1
        obtain ⟨rfl, _, rfl⟩ := e1
        have h := conv_any wr a c (prM m 6) hs (prM_lt HM.out 6 (Nat.le_refl _))
        rw [prM_len] at h
        exact h
      have HBX2 : Hid (Below w.heap.size w wr) := HO.out.2
      clear HE HK6 HO HN p1 p2 p3
      go_wp2
      go_ret
      exact ⟨rfl, HBX2.out⟩
end Go.Proofs.YteldiggaooeeeaaGreatDoor
