/-
  Layer 4: addr.grouped.
-/
import Derived.Test.YteldiggaooeeeaaGreatDoorAdG2
import Derived.Test.YteldiggaooeeeaaGreatDoorMixJ
namespace Go.Proofs.YteldiggaooeeeaaGreatDoor
open Go.RowKit Go.Maps

theorem yields_by4 {ops : Array Oper} {o : Oper} {a : Act} {S : World → Prop} (x : Operand) (ho : o.op = .load 5 x) (p : Addr) (u : Value) (hx : a.eval x = .pointer (some p)) (hw : Region.wanted o (yielded ops a.tmps) = true) (hS : ∀ w, S w → w.cell? p = some u) : YieldsIf Tryz.prog ops S o u a := by
  refine .inl ⟨hw, fun w hb => ?_⟩
  have hc := hS w hb
  have hu := Tryz.underlying5
  obtain ⟨dst, op, type, pos, after, guard⟩ := o
  simp only at ho
  subst ho
  simp only [execOp, Sem.run_bind, Sem.run_pure]
  rw [hx]
  go_simp
theorem jn_lib : ∀ L : List (List Nat), Lib.join ((L.map txB).map (·.data.toList)) (⟨#[58]⟩ : ByteArray).data.toList = (jn L).map UInt8.ofNat
  | [] => rfl
  | [a] => by simp [Lib.join, jn, txB_data, List.intercalate]
  | a :: b :: t => by
    have h := jn_lib (b :: t)
    rw [jn_two, List.map_append, List.map_cons (l := jn (b :: t)), ← h]
    simp [Lib.join, txB_data, List.intercalate]
theorem txB_app (A B : List Nat) : txB A ++ txB B = txB (A ++ B) := by
  apply ByteArray.ext
  simp [txB]
theorem yields_cat {ops : Array Oper} {S : World → Prop} {o : Oper} {a : Act} (X Y : Operand) (ho : o.op = .binOp .add 9 X Y 9) (A B : List Nat) (s : ByteArray) (hs : s = txB B) (hx : a.eval X = .string (txB A)) (hy : a.eval Y = .string s) (hw : Region.wanted o (yielded ops a.tmps) = true) (hl : A.length + B.length ≤ 1000) : YieldsIf Tryz.prog ops S o (.string (txB (A ++ B))) a := by
  refine .inl ⟨hw, fun w _ => ?_⟩
  have h1 := txB_size A
  have h2 := txB_size B
  have hc := txB_app A B
  subst hs
  obtain ⟨dst, op, type, pos, after, guard⟩ := o
  simp only at ho
  subst ho
  simp only [execOp, Sem.run_bind, hx, hy]
  go_simp
  omega
theorem wpList_cat {ops : Array Oper} {rest : List Oper} {o : Oper} {a : Act} {w : World} {Q : Exit → Act → World → Prop} (X Y : Operand) (ho : o.op = .binOp .add 9 X Y 9) (A B : List Nat) (s t : ByteArray) (ht : t = txB A) (hs : s = txB B) (hx : a.eval X = .string t) (hy : a.eval Y = .string s) (hw : Region.wanted o (yielded ops a.tmps) = true) (hl : A.length + B.length ≤ 1000)
    (h : wpList Tryz.prog ops Q rest (a.put o.dst (.string (txB (A ++ B)))) w) : wpList Tryz.prog ops Q (o :: rest) a w := by
  subst ht
  refine wpList_step fun K hK => ?_
  rw [if_pos hw]
  have hrun : (execOp a.eval o).run Tryz.prog w = .ok (.value (.string (txB (A ++ B)))) w := by
    have h1 := txB_size A
    have h2 := txB_size B
    have hc := txB_app A B
    subst hs
    obtain ⟨dst, op, type, pos, after, guard⟩ := o
    simp only at ho
    subst ho
    simp only [execOp, Sem.run_bind, hx, hy]
    go_simp
    omega
  unfold Oper.wp
  rw [hrun]
  exact hK _ _ h
/-- strings.Join of texts with a : between -/
theorem joinC_any (a : Option Addr) (n c : Nat) (L : List (List Nat)) (w : World) (hn : L.length = n) (h8 : n ≤ 8) (h4 : ∀ l ∈ L, l.length ≤ 4)
    (hm : 0 < n → ∃ g o, a = some ⟨g, o, none⟩ ∧ g < w.heap.size ∧ n ≤ c ∧ ∀ (j : Nat) l, L[j]? = some l → w.cell? ⟨g, o + j, none⟩ = some (.string (txB l))) :
    Calls Tryz.prog 39 #[.slice a n c, .string ⟨#[58]⟩] w fun r w' => r = .returned (.string (txB (jn L))) ∧ Below w.heap.size w w' := by
  by_cases h0 : n = 0
  · subst h0
    obtain rfl : L = [] := List.eq_nil_of_length_eq_zero hn
    refine (join_none a c ⟨#[58]⟩ w).mono ?_
    rintro e w' ⟨rfl, rfl⟩
    exact ⟨rfl, Below.refl _ _⟩
  · obtain ⟨g, o, rfl, hg, hc, hcell⟩ := hm (by omega)
    have hl : (L.map txB).length = n := by rw [List.length_map]; exact hn
    have hj := jn_max 4 L h4
    have hj2 : (jn L).length ≤ 40 := by omega
    have h := join_any g o c (L.map txB) ⟨#[58]⟩ w (fun j x hx => by
      rw [List.getElem?_map] at hx
      cases hL : L[j]? with
      | none => rw [hL] at hx; cases hx
      | some l => rw [hL] at hx; simp at hx; subst hx; exact hcell j l hL) hg (by omega) (by omega) (by rw [jn_lib, List.length_map]; omega)
    rw [hl] at h
    refine h.mono ?_
    rintro e w' ⟨rfl, hb⟩
    exact ⟨by rw [jn_lib]; rfl, hb⟩
theorem or_i64 (a b : Nat) (ha : a < 256) (hb : b < 256) : bits BinOp.or IntKind.i64 ((256 * a : Nat) : Int) (b : Int) = ((256 * a + b : Nat) : Int) := by
  have e1 : (BitVec.ofInt 64 ((256 * a : Nat) : Int)).toNat = 256 * a := by rw [BitVec.toNat_ofInt]; omega
  have e2 : (BitVec.ofInt 64 (b : Int)).toNat = b := by rw [BitVec.toNat_ofInt]; omega
  have key : (BitVec.ofInt 64 ((256 * a : Nat) : Int) ||| BitVec.ofInt 64 (b : Int)).toNat = 256 * a + b := by
    rw [BitVec.toNat_or, e1, e2]
    exact (Nat.two_pow_add_eq_or_of_lt (i := 8) hb a).symm
  show IntKind.i64.wrap ((BitVec.ofInt 64 ((256 * a : Nat) : Int) ||| BitVec.ofInt 64 (b : Int)).toNat : Nat) = _
  rw [key]
  exact i64_s _ (by omega) (by omega)
def gtL (x : Nat → Nat) (k : Nat) : List Value := (List.range k).map fun i => .string (gtX x i)
theorem gtL_succ (x : Nat → Nat) (i : Nat) : gtL x (i + 1) = gtL x i ++ [.string (gtX x i)] := by simp [gtL, List.range_succ]
theorem prG_flat {x : Nat → Nat} (h : (lzN x 8).2 - (lzN x 8).1 < 2) : prG x = jn ((List.range 8).map fun k => hexL (gx x k)) := by
  unfold prG
  rw [if_pos h, if_pos h]
  unfold txt
  rw [if_neg (by omega)]
  simp [gl, nT, tx, dl, List.map_map, List.range_eq_range']
  rfl
theorem prG_gap {x : Nat → Nat} (h : ¬ (lzN x 8).2 - (lzN x 8).1 < 2) : prG x = jn ((List.range' 0 (lzN x 8).1).map fun k => hexL (gx x k)) ++ [58, 58] ++ jn ((List.range' (lzN x 8).2 (8 - (lzN x 8).2)).map fun k => hexL (gx x k)) := by
  unfold prG
  rw [if_neg h, if_neg h]
  unfold txt
  rw [if_pos (by omega)]
  simp [gl, nT, tx, dl, List.map_map]
  rfl
theorem jn_short (x : Nat → Nat) (a n : Nat) (h : n ≤ 8) : (jn ((List.range' a n).map fun k => hexL (gx x k))).length ≤ 40 := by
  have h1 := jn_max 4 ((List.range' a n).map fun k => hexL (gx x k)) (fun l hl => by obtain ⟨k, _, rfl⟩ := List.mem_map.1 hl; exact hexL_hi _)
  simp only [List.length_map, List.length_range'] at h1
  omega
theorem gl_four (x : Nat → Nat) : ∀ l ∈ (List.range 8).map fun k => hexL (gx x k), l.length ≤ 4 := by
  intro l hl
  obtain ⟨k, _, rfl⟩ := List.mem_map.1 hl
  exact hexL_hi _
theorem gl_four' (x : Nat → Nat) (a n : Nat) : ∀ l ∈ (List.range' a n).map fun k => hexL (gx x k), l.length ≤ 4 := by
  intro l hl
  obtain ⟨k, _, rfl⟩ := List.mem_map.1 hl
  exact hexL_hi _
theorem gl_cell {x : Nat → Nat} {w : World} {g a n : Nat} (hc : ∀ i, i < 8 → w.cell? ⟨g, i, none⟩ = some (.string (gtX x i))) {j : Nat} {l : List Nat} (_h : 0 ≤ a) (hn : a + n ≤ 8) (hl : ((List.range' a n).map fun k => hexL (gx x k))[j]? = some l) : w.cell? ⟨g, a + j, none⟩ = some (.string (txB l)) := by
  rw [List.getElem?_map] at hl
  have hlt : j < n := by
    refine Nat.lt_of_not_le fun hge => ?_
    rw [List.getElem?_eq_none (by simp; omega)] at hl
    cases hl
  rw [List.getElem?_range' hlt] at hl
  simp at hl
  subst hl
  exact hc _ (by omega)
def AryAt (w : World) (O : Nat) (x : Nat → Nat) : Prop := w.heap[O]? = some (.cells (arCells x) 26 (0, 0))
theorem AryAt.below {w w' : World} {O : Nat} {x : Nat → Nat} (h : AryAt w O x) (c : Below w.heap.size w w') : AryAt w' O x := (c.block O (Array.getElem?_eq_some_iff.1 h).1).trans h
theorem arC_byte (x : Nat → Nat) (i : Nat) (hi : i < 16) : (arCells x)[i]? = some (.int .u8 (x i : Nat)) := by
  rcases lt16' hi with rfl | rfl | rfl | rfl | rfl | rfl | rfl | rfl | rfl | rfl | rfl | rfl | rfl | rfl | rfl | rfl <;> rfl
theorem AryAt.byte {w : World} {O : Nat} {x : Nat → Nat} (h : AryAt w O x) (i : Nat) (hi : i < 16) : w.cell? ⟨O, i, none⟩ = some (.int .u8 (x i : Nat)) := by
  unfold AryAt at h
  simp only [World.cell?, h]
  exact arC_byte x i hi
theorem AryAt.lt {w : World} {O : Nat} {x : Nat → Nat} (h : AryAt w O x) : O < w.heap.size := (Array.getElem?_eq_some_iff.1 h).1
theorem AryAt.grown {w w' : World} {O : Nat} {x : Nat → Nat} {r : Option Nat} (h : AryAt w O x) (g : w.grownBy w' r) (hr : ∀ q, r = some q → O < q) : AryAt w' O x := ((Ch.ofGrown g).block O h.lt (fun e => by have := hr O e; omega)).trans h
theorem gx_or {x : Nat → Nat} {j k : Nat} (hj : 2 * k = j) (h1 : x j < 256) (h2 : x (j + 1) < 256) : bits BinOp.or IntKind.i64 (wrap64 ((x j : Int) * 256)) (x (j + 1) : Int) = ((gx x k : Nat) : Int) := by
  have e : wrap64 ((x j : Int) * 256) = ((256 * x j : Nat) : Int) := by
    unfold wrap64
    omega
  rw [e, or_i64 _ _ h1 h2]
  unfold gx
  rw [hj]
theorem ar_new (w : World) (x : Nat → Nat) : AryAt (w.alloc (.cells (arCells x) 26)) w.heap.size x := heap_alloc_new _ _
set_option maxHeartbeats 1600000 in
set_option maxRecDepth 100000 in
theorem grouped_any (x : Nat → Nat) (w : World) (hx : ∀ i, i < 16 → x i < 256) (hd : Deb w) : Calls Tryz.prog 21 #[.agg (arCells x)] w fun r w' => r = .returned (.string (txB (prG x))) ∧ Below w.heap.size w w' := by
  obtain ⟨i0, hi, hz0, hz1, hz2⟩ := info_parts Tryz.infoStr
  have HI : Hid (Tryz.prog.info? 9 = some i0 ∧ i0.zero = some (.string ⟨#[]⟩) ∧ i0.size = 1 ∧ i0.bytes = 16) := ⟨hi, hz0, hz1, hz2⟩
  have HX : Hid (∀ i, i < 16 → x i < 256) := hx
  have HD : Hid (Deb w) := hd
  clear hi hz0 hz1 hz2 hx hd
  have hb := ar_new w x
  have bel : Below w.heap.size w (w.alloc (.cells (arCells x) 26)) := (Below.refl _ _).alloc (Nat.le_refl _) _
  obtain ⟨CX, hC⟩ : ∃ C, C = arCells x := ⟨_, rfl⟩
  obtain ⟨W, hW⟩ : ∃ W_, W_ = w.alloc (.cells (arCells x) 26) := ⟨_, rfl⟩
  rw [← hW] at hb bel
  have HSZX : Hid (W.heap.size = w.heap.size + 1) := by show _ = _; rw [hW, World.size_alloc]
  obtain ⟨B, hB⟩ : ∃ B, B = w.heap.size := ⟨_, rfl⟩
  rw [← hB] at hb
  have HBX : Hid (AryAt W B x) := hb
  rw [← hC] at hW ⊢
  have HOX : Hid (w.heap.size = B) := hB.symm
  have HLX : Hid (Below w.heap.size w W) := bel
  have HWX : Hid (w.alloc (.cells CX 26) = W) := hW.symm
  clear hb hW hB hC bel
  go_enter Tryz.func21, Tryz.ntmps21
  go_upto_region 1 with fail
  rw [HOX.out, HWX.out]
  have HWB : Hid (W.heap.size = B + 1) := by have h1 := HSZX.out; have h2 := HOX.out; show _ = _; omega
  have HLE : Hid (∀ A : World, AryAt A B x → B < A.heap.size) := fun A h => h.lt
  go_wp2
  go_loopw [3, 4] (fun lv iv wr => ∃ (k c : Nat) (a : Option Addr), k ≤ 8 ∧ iv = .int .i64 ((2 * k : Nat) : Int) ∧ lv = .slice a k c ∧ Hid (AryAt wr B x ∧ wr.ownsRow W.heap.size 9 1 (.slice a k c) k (gtL x k) ∧ Below w.heap.size w wr)) (fun _ iv _ => 16 - (intOf iv).toNat)
  case atStart => exact ⟨0, 0, none, by omega, rfl, rfl, HBX.out, World.ownsRow_nil _ _ _ _, HLX.out⟩
  case round =>
    obtain ⟨k, c, a, hk8, rfl, rfl, HO⟩ := hrel
    have HK8 : Hid (k ≤ 8) := hk8
    clear hk8
    obtain ⟨j, hj⟩ : ∃ j, 2 * k = j := ⟨_, rfl⟩
    have HJ : Hid (2 * k = j) := hj
    rw [hj]
    clear hj
    by_cases hlt : k < 8
    · have p1 : decide ((j : Int) < 16) = true := decide_eq_true (by have := HJ.out; omega)
      have p2 : decide (j < 16) = true := decide_eq_true (by have := HJ.out; omega)
      have p3 : (j : Int) < 16 := by have := HJ.out; omega
      have p4 : (0 : Int) ≤ (j : Int) := by omega
      have p5 : (0 : Int) ≤ (j : Int) + 1 := by omega
      have p6 : (j : Int) + 1 < 16 := by have := HJ.out; omega
      have x3 : IntKind.i64.wrap ((j : Int) + 1) = (j : Int) + 1 := i64_s _ (by omega) (by omega)
      have x4 : IntKind.i64.wrap ((j : Int) + 2) = (j : Int) + 2 := i64_s _ (by omega) (by omega)
      have x5 : IntKind.i64.wrap ((x j : Nat) : Int) = ((x j : Nat) : Int) := i64_s _ (by omega) (by have := HX.out j (by omega); omega)
      have x6 : IntKind.i64.wrap ((x (j + 1) : Nat) : Int) = ((x (j + 1) : Nat) : Int) := i64_s _ (by omega) (by have := HX.out (j + 1) (by omega); omega)
      have HLT : Hid (k < 8) := hlt
      have HOR : Hid (bits BinOp.or IntKind.i64 (wrap64 ((x j : Int) * 256)) (x (j + 1) : Int) = ((gx x k : Nat) : Int)) := gx_or HJ.out (HX.out j (by omega)) (HX.out (j + 1) (by omega))
      clear hlt
      go_upto_region 5 with fail
      refine MixH.start (fun A => AryAt A B x ∧ Below w.heap.size w A) (by kernel_rfl) ?_
      obtain ⟨wA, hwA⟩ : ∃ W_, W_ = wr.drew := ⟨_, rfl⟩
      have bdr : Below wr.heap.size wr wA := by rw [hwA]; exact (Below.refl _ _).drew
      have hS : AryAt wA B x ∧ Below w.heap.size w wA := ⟨HO.out.1.below bdr, HO.out.2.2.trans (bdr.mono HO.out.2.2.size)⟩
      have HRA : Hid (wA.ownsRow W.heap.size 9 1 (.slice a k c) k (gtL x k)) := (Ch.ofBelow (S := fun _ => False) bdr).owns HO.out.2.1 (fun _ _ h => h)
      rw [← hwA]
      clear hwA bdr
      refine MixH.takes [true, true, true, false, false, false, true, true, true] 10 (by kernel_rfl) (by kernel_rfl) (by decide) (by kernel_rfl) hS (fun K hK => ?_)
      simp only [Mix.pick]
      repeat (go_big_quiet_step (fail))
      refine wpQuiet_nil (hK _ ?_)
      clear hK K
      refine MixH.take 9 3 _ (.int .u8 (x j : Nat)) rfl (by kernel_rfl) (by kernel_rfl) (by kernel_rfl) (by kernel_rfl) (yields_by4 (.tmp 13) rfl ⟨B, j, none⟩ (.int .u8 (x j : Nat)) rfl rfl (fun A hA => hA.1.byte j (by omega))) hS (fun a' ha => ?_)
      simp only [Act.put, List.setIfInBounds_toArray, List.set_cons_succ, List.set_cons_zero] at ha
      subst ha
      refine MixH.takes [false, false, false, false, true, true] 7 (by kernel_rfl) (by kernel_rfl) (by decide) (by kernel_rfl) hS (fun K hK => ?_)
      simp only [Mix.pick]
      repeat (go_big_quiet_step (fail))
      refine wpQuiet_nil (hK _ ?_)
      clear hK K
      refine MixH.take 6 9 _ (.int .u8 (x (j + 1) : Nat)) rfl (by kernel_rfl) (by kernel_rfl) (by kernel_rfl) (by kernel_rfl) (yields_by4 (.tmp 19) rfl ⟨B, j + 1, none⟩ (.int .u8 (x (j + 1) : Nat)) rfl rfl (fun A hA => hA.1.byte (j + 1) (by omega))) hS (fun a' ha => ?_)
      simp only [Act.put, List.setIfInBounds_toArray, List.set_cons_succ, List.set_cons_zero] at ha
      subst ha
      refine MixH.takes [false, false, false, false, false, false, false, false, false, false, true, true] 4 (by kernel_rfl) (by kernel_rfl) (by decide) (by kernel_rfl) hS (fun K hK => ?_)
      simp only [Mix.pick]
      repeat (go_big_quiet_step (fail))
      refine wpQuiet_nil (hK _ ?_)
      clear hK K
      refine MixH.one [false, false, false, false, false, false, false, false, false, false, false, false, true] 3 12 _ rfl rfl (by kernel_rfl) (by kernel_rfl) (fun K hK => ?_)
      simp only [Mix.pick]
      go_wp2_with fail
      rw [HOR.out]
      refine Calls.mono (fmt_any (gx x k) wA (gx_lt HX.out HLT.out) (HD.out.below hS.2)) ?_
      rintro e w1 ⟨rfl, hb⟩
      have hS : AryAt w1 B x ∧ Below w.heap.size w w1 := ⟨hS.1.below hb, hS.2.trans (hb.mono hS.2.size)⟩
      have HR1 : Hid (w1.ownsRow W.heap.size 9 1 (.slice a k c) k (gtL x k)) := (Ch.ofBelow (S := fun _ => False) hb).owns HRA.out (fun _ _ h => h)
      clear hb
      go_wp2_with fail
      refine ⟨rfl, hK _ _ hS ?_⟩
      clear hK K
      refine MixH.one [false, false, false, false, false, false, false, false, false, false, false, false, false, true] 2 13 _ rfl rfl (by kernel_rfl) (by kernel_rfl) (fun K hK => ?_)
      simp only [Mix.pick]
      go_wp2_with fail
      obtain ⟨w2, hw2⟩ : ∃ W_, W_ = w1.alloc (.cells #[.string (txB (hexL (gx x k)))] 9) := ⟨_, rfl⟩
      have b2 : Below w1.heap.size w1 w2 := by rw [hw2]; exact (Below.refl _ _).alloc (Nat.le_refl _) _
      have HC2 : Hid (∀ j u, [Value.string (txB (hexL (gx x k)))][j]? = some u → w2.cell? ((⟨w1.heap.size, 0, none⟩ : Addr).add j) = some u) := by rw [hw2]; exact cellsOne w1 _ _
      have HZ2 : Hid (W.heap.size ≤ w1.heap.size ∧ w1.heap.size < w2.heap.size) := ⟨by have h1 := HWB.out; have h2 := hS.2.size; have h3 := HLE.out w1 hS.1; omega, by rw [hw2, World.size_alloc]; omega⟩
      have hS : AryAt w2 B x ∧ Below w.heap.size w w2 := ⟨hS.1.below b2, hS.2.trans (b2.mono hS.2.size)⟩
      have HR2 : Hid (w2.ownsRow W.heap.size 9 1 (.slice a k c) k (gtL x k)) := (Ch.ofBelow (S := fun _ => False) b2).owns HR1.out (fun _ _ h => h)
      rw [← hw2]
      clear hw2 b2
      refine ⟨rfl, hK _ _ hS ?_⟩
      clear hK K
      refine MixH.one [false, false, false, false, false, false, false, false, false, false, false, false, false, false, true] 1 14 _ rfl rfl (by kernel_rfl) (by kernel_rfl) (fun K hK => ?_)
      simp only [Mix.pick]
      go_wp2_with (at_builtin; refine wpList_append_own_at _ rfl (.tmp 11) (.tmp 24) 78 rfl W.heap.size 9 i0 (.string ⟨#[]⟩) 1 16 Tryz.underlying78 HI.out.1 HI.out.2.1 HI.out.2.2.1 HI.out.2.2.2 rfl (by decide) _ _ _ rfl HR2.out ⟨w1.heap.size, 0, none⟩ 1 1 [.string (txB (hexL (gx x k)))] rfl rfl HC2.out (by intro u hu; simp at hu; subst hu; rfl) (by have := HLT.out; unfold maxLen; omega) (by have := HLT.out; omega) (by have := HZ2.out; omega) ?_)
      intro v2 w3 ho2 hg2 _ _
      obtain ⟨a3, c3, rfl⟩ := owns_shape ho2
      have hS : AryAt w3 B x ∧ Below w.heap.size w w3 := ⟨AryAt.grown hS.1 hg2 (fun q hq => by have h1 := (HR2.out.lt q hq).1; have h2 := HWB.out; omega), hS.2.grown hg2 (by have h1 := hS.2.size; omega) (fun q hq => by have h1 := (HR2.out.lt q hq).1; have h2 := HLX.out.size; omega)⟩
      have H3 : Hid (AryAt w3 B x ∧ w3.ownsRow W.heap.size 9 1 (.slice a3 (k + 1) c3) (k + 1) (gtL x (k + 1)) ∧ Below w.heap.size w w3) := ⟨hS.1, by rw [gtL_succ]; exact ho2, hS.2⟩
      clear ho2 hg2
      refine ⟨rfl, hK _ _ hS ?_⟩
      clear hK K
      refine MixH.takes [false, false, false, false, false, false, false, false, false, false, false, false, false, false, false, true] 0 (by kernel_rfl) (by kernel_rfl) (by decide) (by kernel_rfl) hS (fun K hK => ?_)
      simp only [Mix.pick]
      repeat (go_big_quiet_step (fail))
      refine wpQuiet_nil (hK _ ?_)
      clear hK K
      refine MixH.done (by kernel_rfl) ?_
      clear hS
      go_wp2
      go_roundw
      case rel => exact ⟨k + 1, c3, a3, HLT.out, by rw [← HJ.out]; simp; omega, rfl, H3.out⟩
      case measure => have h1 := HLT.out; have h2 := HJ.out; simp [intOf]; omega
    · have HE : Hid (k = 8) := by have := HK8.out; show k = 8; omega
      have p1 : decide ((j : Int) < 16) = false := decide_eq_false (by have := HJ.out; omega)
      have p2 : decide (j < 16) = false := decide_eq_false (by have := HJ.out; omega)
      have p3 : ¬ (j : Int) < 16 := by have := HJ.out; omega
      clear hlt
      obtain rfl := HE.out
      obtain ⟨g, rfl, hcap, hgb, hglt⟩ := own_some HO.out.2.1 (by decide)
      have HCELL : Hid (∀ i, i < 8 → wr.cell? ⟨g, i, none⟩ = some (.string (gtX x i))) := by
        intro i hi
        rw [HO.out.2.1.cellAt i (by omega)]
        simp [gtL, hi]
      have HG : Hid (g < wr.heap.size ∧ 8 ≤ c) := ⟨hglt, hcap⟩
      have HBEL : Hid (Below w.heap.size w wr) := HO.out.2.2
      clear HE HO HK8 hcap hglt hgb
      go_wp2_with fail
      refine (lz_any x g c wr HX.out HCELL.out).mono ?_
      rintro e wz ⟨rfl, rfl⟩
      obtain ⟨fr, hfr⟩ : ∃ fr, (lzN x 8).1 = fr := ⟨_, rfl⟩
      obtain ⟨tq, hto⟩ : ∃ tq, (lzN x 8).2 = tq := ⟨_, rfl⟩
      have HLZ : Hid ((lzN x 8).1 = fr ∧ (lzN x 8).2 = tq ∧ fr ≤ tq ∧ tq ≤ 8) := by have h := lzN_at x 8 (Nat.le_refl _); rw [hfr, hto] at h; exact ⟨hfr, hto, h.1, h.2.1⟩
      rw [hfr, hto]
      clear hfr hto
      have y1 : IntKind.i64.wrap ((tq : Int) - (fr : Int)) = ((tq - fr : Nat) : Int) := by have := HLZ.out; rw [i64_s _ (by omega) (by omega)]; omega
      by_cases h2 : tq - fr < 2
      · have g1 : decide (((tq - fr : Nat) : Int) < 2) = true := decide_eq_true (by omega)
        have g2 : decide (tq - fr < 2) = true := decide_eq_true h2
        have g3 : ((tq - fr : Nat) : Int) < 2 := by omega
        have HP : Hid (prG x = jn ((List.range 8).map fun k => hexL (gx x k))) := prG_flat (by rw [HLZ.out.1, HLZ.out.2.1]; exact h2)
        clear h2
        go_wp2_with fail
        refine (joinC_any (some ⟨g, 0, none⟩) 8 c ((List.range 8).map fun k => hexL (gx x k)) wr rfl (by decide) (gl_four x) (fun _ => ⟨g, 0, rfl, HG.out.1, HG.out.2, fun j l hl => gl_cell (a := 0) (n := 8) HCELL.out (Nat.zero_le _) (by omega) (by rw [← List.range_eq_range']; exact hl)⟩)).mono ?_
        rintro e w4 ⟨rfl, hb⟩
        have H4 : Hid (Below w.heap.size w w4) := HBEL.out.trans (hb.mono HBEL.out.size)
        clear hb
        rw [← HP.out]
        go_wp2
        go_ret
        exact ⟨rfl, H4.out⟩
      · have g1 : decide (((tq - fr : Nat) : Int) < 2) = false := decide_eq_false (by omega)
        have g2 : decide (tq - fr < 2) = false := decide_eq_false h2
        have g3 : ¬ ((tq - fr : Nat) : Int) < 2 := by omega
        have b1 : (0 : Int) ≤ (fr : Int) := by omega
        have b2 : (fr : Int) ≤ (c : Int) := by have := HLZ.out; have := HG.out; omega
        have b3 : (0 : Int) ≤ (tq : Int) := by omega
        have b4 : (tq : Int) ≤ 8 := by have := HLZ.out; omega
        have HP : Hid (prG x = jn ((List.range' 0 fr).map fun k => hexL (gx x k)) ++ [58, 58] ++ jn ((List.range' tq (8 - tq)).map fun k => hexL (gx x k))) := by have h := prG_gap (x := x) (by rw [HLZ.out.1, HLZ.out.2.1]; exact h2); rw [HLZ.out.1, HLZ.out.2.1] at h; exact h
        clear h2
        have HCB : Hid (∀ A : World, Below wr.heap.size wr A → ∀ i, i < 8 → A.cell? ⟨g, i, none⟩ = some (.string (gtX x i))) := fun A h i hi => (h.cell HG.out.1).trans (HCELL.out i hi)
        by_cases hct : c = tq
        · subst hct
          have HT8 : Hid (c = 8) := by have h1 := HLZ.out; have h2 := HG.out; show _ = _; omega
          go_upto_region 9 with fail
          refine MixH.start (fun A => Below wr.heap.size wr A) (by kernel_rfl) ?_
          obtain ⟨wA, hwA⟩ : ∃ W_, W_ = wr.drew := ⟨_, rfl⟩
          have bdr : Below wr.heap.size wr wA := by rw [hwA]; exact (Below.refl _ _).drew
          have hS : Below wr.heap.size wr wA := bdr
          rw [← hwA]
          clear hwA bdr
          refine MixH.takes [true, true, true, false, false, true, true, true] 5 (by kernel_rfl) (by kernel_rfl) (by decide) (by kernel_rfl) hS (fun K hK => ?_)
          simp only [Mix.pick]
          repeat (go_big_quiet_step (fail))
          refine wpQuiet_nil (hK _ ?_)
          clear hK K
          refine MixH.one [false, false, false, true] 4 3 _ rfl rfl (by kernel_rfl) (by kernel_rfl) (fun K hK => ?_)
          simp only [Mix.pick]
          go_wp2_with fail
          refine Calls.mono (joinC_any (some ⟨g, 0, none⟩) (fr) (c) ((List.range' 0 (fr)).map fun k => hexL (gx x k)) wA (by simp) (by have := HLZ.out; omega) (gl_four' x _ _) (fun hpos => ⟨g, 0, rfl, Nat.lt_of_lt_of_le HG.out.1 hS.size, by have := HLZ.out; have := HG.out; omega, fun j l hl => gl_cell (HCB.out wA hS) (Nat.zero_le _) (by have := HLZ.out; omega) hl⟩)) ?_
          rintro e w5 ⟨rfl, hb⟩
          have hS : Below wr.heap.size wr w5 := hS.trans (hb.mono hS.size)
          clear hb
          go_wp2_with fail
          refine ⟨rfl, hK _ _ hS ?_⟩
          clear hK K
          refine MixH.take 3 4 _ (.string (txB (jn ((List.range' 0 fr).map fun k => hexL (gx x k)) ++ [58, 58]))) rfl (by kernel_rfl) (by kernel_rfl) (by kernel_rfl) (by kernel_rfl) (yields_cat (.tmp 40) (.const (.string ⟨#[58, 58]⟩)) rfl (jn ((List.range' 0 fr).map fun k => hexL (gx x k))) [58, 58] ⟨#[58, 58]⟩ rfl rfl rfl rfl (by have h1 := jn_short x 0 fr (by have := HLZ.out; omega); have h2 := jn_short x c (8 - c) (by omega); simp only [List.length_cons, List.length_nil]; omega)) hS (fun a' ha => ?_)
          simp only [Act.put, List.setIfInBounds_toArray, List.set_cons_succ, List.set_cons_zero] at ha
          subst ha
          refine MixH.one [false, false, false, false, false, false, false, false, true] 2 8 _ rfl rfl (by kernel_rfl) (by kernel_rfl) (fun K hK => ?_)
          simp only [Mix.pick]
          go_wp2_with fail
          refine Calls.mono (joinC_any (some ⟨g, 0, none⟩) (8 - c) (0) ((List.range' c (8 - c)).map fun k => hexL (gx x k)) w5 (by simp) (by have := HLZ.out; omega) (gl_four' x _ _) (fun hpos => by exfalso; have := HT8.out; omega)) ?_
          rintro e w6 ⟨rfl, hb⟩
          have hS : Below wr.heap.size wr w6 := hS.trans (hb.mono hS.size)
          clear hb
          go_wp2_with fail
          refine ⟨rfl, hK _ _ hS ?_⟩
          clear hK K
          refine MixH.take 1 9 _ (.string (txB (jn ((List.range' 0 fr).map fun k => hexL (gx x k)) ++ [58, 58] ++ jn ((List.range' c (8 - c)).map fun k => hexL (gx x k))))) rfl (by kernel_rfl) (by kernel_rfl) (by kernel_rfl) (by kernel_rfl) (yields_cat (.tmp 41) (.tmp 45) rfl (jn ((List.range' 0 fr).map fun k => hexL (gx x k)) ++ [58, 58]) (jn ((List.range' c (8 - c)).map fun k => hexL (gx x k))) _ rfl rfl rfl rfl (by have h1 := jn_short x 0 fr (by have := HLZ.out; omega); have h2 := jn_short x c (8 - c) (by omega); simp only [List.length_append, List.length_cons, List.length_nil]; omega)) hS (fun a' ha => ?_)
          simp only [Act.put, List.setIfInBounds_toArray, List.set_cons_succ, List.set_cons_zero] at ha
          subst ha
          refine MixH.takes [false, false, false, false, false, false, false, false, false, false, true] 0 (by kernel_rfl) (by kernel_rfl) (by decide) (by kernel_rfl) hS (fun K hK => ?_)
          simp only [Mix.pick]
          repeat (go_big_quiet_step (fail))
          refine wpQuiet_nil (hK _ ?_)
          clear hK K
          refine MixH.done (by kernel_rfl) ?_
          have H6 : Hid (Below w.heap.size w w6) := HBEL.out.trans (hS.mono HBEL.out.size)
          clear hS
          go_wp2
          go_ret
          exact ⟨by rw [HP.out]; rfl, H6.out⟩
        · have HCT : Hid (tq < c) := by have h1 := HLZ.out; have h2 := HG.out; show _ < _; omega
          go_upto_region 9 with fail
          refine MixH.start (fun A => Below wr.heap.size wr A) (by kernel_rfl) ?_
          obtain ⟨wA, hwA⟩ : ∃ W_, W_ = wr.drew := ⟨_, rfl⟩
          have bdr : Below wr.heap.size wr wA := by rw [hwA]; exact (Below.refl _ _).drew
          have hS : Below wr.heap.size wr wA := bdr
          rw [← hwA]
          clear hwA bdr
          refine MixH.takes [true, true, true, false, false, true, true, true] 5 (by kernel_rfl) (by kernel_rfl) (by decide) (by kernel_rfl) hS (fun K hK => ?_)
          simp only [Mix.pick]
          repeat (go_big_quiet_step (fail))
          refine wpQuiet_nil (hK _ ?_)
          clear hK K
          refine MixH.one [false, false, false, true] 4 3 _ rfl rfl (by kernel_rfl) (by kernel_rfl) (fun K hK => ?_)
          simp only [Mix.pick]
          go_wp2_with fail
          refine Calls.mono (joinC_any (some ⟨g, 0, none⟩) (fr) (c) ((List.range' 0 (fr)).map fun k => hexL (gx x k)) wA (by simp) (by have := HLZ.out; omega) (gl_four' x _ _) (fun hpos => ⟨g, 0, rfl, Nat.lt_of_lt_of_le HG.out.1 hS.size, by have := HLZ.out; have := HG.out; omega, fun j l hl => gl_cell (HCB.out wA hS) (Nat.zero_le _) (by have := HLZ.out; omega) hl⟩)) ?_
          rintro e w5 ⟨rfl, hb⟩
          have hS : Below wr.heap.size wr w5 := hS.trans (hb.mono hS.size)
          clear hb
          go_wp2_with fail
          refine ⟨rfl, hK _ _ hS ?_⟩
          clear hK K
          refine MixH.take 3 4 _ (.string (txB (jn ((List.range' 0 fr).map fun k => hexL (gx x k)) ++ [58, 58]))) rfl (by kernel_rfl) (by kernel_rfl) (by kernel_rfl) (by kernel_rfl) (yields_cat (.tmp 40) (.const (.string ⟨#[58, 58]⟩)) rfl (jn ((List.range' 0 fr).map fun k => hexL (gx x k))) [58, 58] ⟨#[58, 58]⟩ rfl rfl rfl rfl (by have h1 := jn_short x 0 fr (by have := HLZ.out; omega); have h2 := jn_short x tq (8 - tq) (by omega); simp only [List.length_cons, List.length_nil]; omega)) hS (fun a' ha => ?_)
          simp only [Act.put, List.setIfInBounds_toArray, List.set_cons_succ, List.set_cons_zero] at ha
          subst ha
          refine MixH.one [false, false, false, false, false, false, false, false, true] 2 8 _ rfl rfl (by kernel_rfl) (by kernel_rfl) (fun K hK => ?_)
          simp only [Mix.pick]
          go_wp2_with fail
          refine Calls.mono (joinC_any (some ⟨g, tq, none⟩) (8 - tq) (c - tq) ((List.range' tq (8 - tq)).map fun k => hexL (gx x k)) w5 (by simp) (by have := HLZ.out; omega) (gl_four' x _ _) (fun hpos => ⟨g, tq, rfl, Nat.lt_of_lt_of_le HG.out.1 hS.size, by have := HLZ.out; have := HG.out; omega, fun j l hl => gl_cell (HCB.out w5 hS) (Nat.zero_le _) (by have := HLZ.out; omega) hl⟩)) ?_
          rintro e w6 ⟨rfl, hb⟩
          have hS : Below wr.heap.size wr w6 := hS.trans (hb.mono hS.size)
          clear hb
          go_wp2_with fail
          refine ⟨rfl, hK _ _ hS ?_⟩
          clear hK K
          refine MixH.take 1 9 _ (.string (txB (jn ((List.range' 0 fr).map fun k => hexL (gx x k)) ++ [58, 58] ++ jn ((List.range' tq (8 - tq)).map fun k => hexL (gx x k))))) rfl (by kernel_rfl) (by kernel_rfl) (by kernel_rfl) (by kernel_rfl) (yields_cat (.tmp 41) (.tmp 45) rfl (jn ((List.range' 0 fr).map fun k => hexL (gx x k)) ++ [58, 58]) (jn ((List.range' tq (8 - tq)).map fun k => hexL (gx x k))) _ rfl rfl rfl rfl (by have h1 := jn_short x 0 fr (by have := HLZ.out; omega); have h2 := jn_short x tq (8 - tq) (by omega); simp only [List.length_append, List.length_cons, List.length_nil]; omega)) hS (fun a' ha => ?_)
          simp only [Act.put, List.setIfInBounds_toArray, List.set_cons_succ, List.set_cons_zero] at ha
          subst ha
          refine MixH.takes [false, false, false, false, false, false, false, false, false, false, true] 0 (by kernel_rfl) (by kernel_rfl) (by decide) (by kernel_rfl) hS (fun K hK => ?_)
          simp only [Mix.pick]
          repeat (go_big_quiet_step (fail))
          refine wpQuiet_nil (hK _ ?_)
          clear hK K
          refine MixH.done (by kernel_rfl) ?_
          have H6 : Hid (Below w.heap.size w w6) := HBEL.out.trans (hS.mono HBEL.out.size)
          clear hS
          go_wp2
          go_ret
          exact ⟨by rw [HP.out]; rfl, H6.out⟩
end Go.Proofs.YteldiggaooeeeaaGreatDoor
