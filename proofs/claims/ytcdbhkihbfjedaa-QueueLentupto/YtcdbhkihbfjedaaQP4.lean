/-
  Layer 18: started: two items go out in turn.
-/
import Derived.Test.YtcdbhkihbfjedaaQP3
namespace Go.Proofs.Ytcdbhkihbfjedaa
open Go.RowKit Go.ChangeShapes Go.WideShapes

structure A6 where
  x0 : OV
  x1 : OV
  x2 : OV
  x3 : OV
  x4 : OV
  x5 : OV
def a6A (s : A6) : Array Value := #[.int .i64 s.x0.kd, .bool s.x0.tw, .int .i64 s.x0.cl, .int .i64 s.x0.sz, .int .i64 s.x0.it, .int .i64 s.x1.kd, .bool s.x1.tw, .int .i64 s.x1.cl, .int .i64 s.x1.sz, .int .i64 s.x1.it, .int .i64 s.x2.kd, .bool s.x2.tw, .int .i64 s.x2.cl, .int .i64 s.x2.sz, .int .i64 s.x2.it, .int .i64 s.x3.kd, .bool s.x3.tw, .int .i64 s.x3.cl, .int .i64 s.x3.sz, .int .i64 s.x3.it, .int .i64 s.x4.kd, .bool s.x4.tw, .int .i64 s.x4.cl, .int .i64 s.x4.sz, .int .i64 s.x4.it, .int .i64 s.x5.kd, .bool s.x5.tw, .int .i64 s.x5.cl, .int .i64 s.x5.sz, .int .i64 s.x5.it
  ]
def a6z : A6 := ⟨oz, oz, oz, oz, oz, oz⟩
def six0 : A6 := ⟨⟨1, false, 0, 150, 1⟩, ⟨1, false, 1, 120, 3⟩, ⟨3, false, 0, 0, 0⟩, ⟨2, false, 0, 0, 0⟩, ⟨2, false, 0, 0, 0⟩, ⟨5, false, 0, 0, 0⟩⟩
theorem Try.size_a6v : (Try.prog.info? 107).map (·.size) = some 30 := by kernel_rfl
def A6vAt (w : World) (O : Nat) (av : A6) : Prop := w.heap[O]? = some (.cells (a6A av) 107 (0, 0))
section
variable {w : World} {O : Nat} {av : A6} (k : A6vAt w O av)
include k
theorem A6vAt.lt : O < w.heap.size := (Array.getElem?_eq_some_iff.1 k).1
theorem A6vAt.ch {S : Nat → Prop} {w' : World} (c : Ch S w w') (hS : ¬ S O) : A6vAt w' O av := (c.block O k.lt hS).trans k
theorem A6vAt.below {w' : World} (c : Below w.heap.size w w') : A6vAt w' O av := (c.block O k.lt).trans k
theorem A6vAt.cell (i : Nat) : w.cell? ⟨O, i, none⟩ = (a6A av)[i]? := by unfold A6vAt at k; simp [World.cell?, k]
theorem A6vAt.fz (j : Nat) : w.frozen? ⟨O, j, none⟩ = false := by unfold A6vAt at k; simp [World.frozen?, k]
theorem A6vAt.range (o n : Nat) : w.rangeAt O o (((a6A av).extract o (o + n)).toList) := World.rangeAt_of_block k o n
end
theorem a6v_new (w : World) (av : A6) : A6vAt (w.alloc (.cells (a6A av) 107)) w.heap.size av := heap_alloc_new _ _
theorem wpList_load_a6v {ops : Array Oper} {rest : List Oper} {o : Oper} {a : Act} {w : World} {Q : Exit → Act → World → Prop} (x : Operand) (ho : o.op = .load 107 x) (O : Nat) (av : A6) (hx : a.eval x = .pointer (some ⟨O, 0, none⟩)) (hb : A6vAt w O av)
    (hw : Region.wanted o (yielded ops a.tmps) = true) (hh : wpList Try.prog ops Q rest (a.put o.dst (.agg (a6A av))) w) : wpList Try.prog ops Q (o :: rest) a w := by
  refine wpList_step fun K hK => ?_
  rw [if_pos hw]
  exact wp_load_row 107 x ho O hx _ _ _ _ hb Try.underlying107 rfl Try.size_a6v (hK _ _ hh)
theorem wpList_store_a6v {ops : Array Oper} {rest : List Oper} {o : Oper} {a : Act} {w : World} {Q : Exit → Act → World → Prop} (x y : Operand) (ho : o.op = .store 107 x y) (hd : o.dst = none) (O : Nat) (av : A6) (av' : A6) (hx : a.eval x = .pointer (some ⟨O, 0, none⟩)) (hy : a.eval y = .agg (a6A av')) (hb : A6vAt w O av)
    (hw : Region.wanted o (yielded ops a.tmps) = true) (hh : ∀ w', A6vAt w' O av' → Ch (fun q => q = O) w w' → wpList Try.prog ops Q rest a w') : wpList Try.prog ops Q (o :: rest) a w := by
  refine wpList_step fun K hK => ?_
  rw [if_pos hw]
  refine wp_store_row 107 x y ho O (a6A av') hx hy _ (a6A av) hb Try.size_a6v rfl (by simp [a6A, Value.oneCell']) (hK _ _ ?_)
  rw [hd]
  refine hh _ (setRow_heap w O _ _ _ _ hb) ⟨rfl, rfl, rfl, ?_, ?_⟩
  · simp [World.setRow]
  · intro k hk hne
    simp only [World.setRow]
    rw [Array.getElem?_modify, if_neg (fun e => hne e.symm)]
theorem wpList_alloc_a6v {ops : Array Oper} {rest : List Oper} {o : Oper} {a : Act} {w : World} {Q : Exit → Act → World → Prop} (ho : o.op = .alloc 107) (hw : Region.wanted o (yielded ops a.tmps) = true)
    (h : wpList Try.prog ops Q rest (a.put o.dst (.pointer (some ⟨w.heap.size, 0, none⟩))) (w.alloc (.cells (a6A a6z) 107))) : wpList Try.prog ops Q (o :: rest) a w := by
  refine wpList_step fun K hK => ?_
  rw [if_pos hw]
  have hrun : (execOp a.eval o).run Try.prog w = .ok (.value (.pointer (some ⟨w.heap.size, 0, none⟩))) (w.alloc (.cells (a6A a6z) 107)) := by
    obtain ⟨dst, op, type, pos, after, guard⟩ := o
    simp only at ho
    subst ho
    simp only [execOp]
    go_simp
    rfl
  unfold Oper.wp
  rw [hrun]
  exact hK _ _ h
theorem yields_a6v {ops : Array Oper} {o : Oper} {a : Act} {S : World → Prop} (x : Operand) (ho : o.op = .load 107 x) (O off : Nat) (av : A6) (hx : a.eval x = .pointer (some ⟨O, off, none⟩)) (hw : Region.wanted o (yielded ops a.tmps) = true) (hS : ∀ w, S w → w.rangeAt O off (a6A av).toList) : YieldsIf Try.prog ops S o (.agg (a6A av)) a :=
  yieldsIf_load_mid hw 107 x ho O off hx (a6A av).toList _ hS Try.underlying107 rfl Try.size_a6v
theorem wpList_mid_a6v {ops : Array Oper} {rest : List Oper} {o : Oper} {a : Act} {w : World} {Q : Exit → Act → World → Prop} (x : Operand) (ho : o.op = .load 107 x) (O off : Nat) (av : A6) (hx : a.eval x = .pointer (some ⟨O, off, none⟩)) (hb : w.rangeAt O off (a6A av).toList)
    (hw : Region.wanted o (yielded ops a.tmps) = true) (h : wpList Try.prog ops Q rest (a.put o.dst (.agg (a6A av))) w) : wpList Try.prog ops Q (o :: rest) a w := by
  refine wpList_step fun K hK => ?_
  rw [if_pos hw]
  exact wp_load_mid 107 x ho O off hx (a6A av).toList _ hb Try.underlying107 rfl Try.size_a6v (hK _ _ h)
theorem results_a6v {fn : Func} {p : Tmp} (h : fn.results = #[.cell p 107]) (tmps : Array Value) (w : World) (O : Nat) (av : A6) (hp : tmps.getD p undef = .pointer (some ⟨O, 0, none⟩)) (hb : A6vAt w O av) :
    (results fn tmps).run Try.prog w = .ok (.agg (a6A av)) w :=
  results_cell_row h tmps w O _ (a6A av) _ _ hp hb Try.underlying107 rfl Try.size_a6v
theorem wpList_box_a6v {ops : Array Oper} {rest : List Oper} {o : Oper} {a : Act} {w : World} {Q : Exit → Act → World → Prop} (x : Operand) (ho : o.op = .box 107 x) (av : A6) (hx : a.eval x = .agg (a6A av)) (hw : Region.wanted o (yielded ops a.tmps) = true)
    (h : ∀ B W, Hid (w.heap.size = B ∧ W.heap.size = B + 1) → A6vAt W B av → Below w.heap.size w W → wpList Try.prog ops Q rest (a.put o.dst (.pointer (some ⟨B, 0, none⟩))) W) : wpList Try.prog ops Q (o :: rest) a w := by
  refine wpList_step fun K hK => ?_
  rw [if_pos hw]
  have hrun : (execOp a.eval o).run Try.prog w = .ok (.value (.pointer (some ⟨w.heap.size, 0, none⟩))) (w.alloc (.cells (a6A av) 107)) := by
    obtain ⟨dst, op, type, pos, after, guard⟩ := o
    simp only at ho
    subst ho
    simp only [execOp, hx]
    go_simp
  unfold Oper.wp
  rw [hrun]
  exact hK _ _ (h _ _ ⟨rfl, World.size_alloc _ _⟩ (a6v_new _ _) ((Below.refl _ _).alloc (Nat.le_refl _) _))
theorem wpList_nil_a6v {ops : Array Oper} {rest : List Oper} {o : Oper} {a : Act} {w : World} {Q : Exit → Act → World → Prop} (ho : o.op = .alloc 107) (hw : Region.wanted o (yielded ops a.tmps) = true)
    (h : ∀ B W, Hid (w.heap.size = B ∧ W.heap.size = B + 1) → A6vAt W B a6z → Below w.heap.size w W → wpList Try.prog ops Q rest (a.put o.dst (.pointer (some ⟨B, 0, none⟩))) W) : wpList Try.prog ops Q (o :: rest) a w :=
  wpList_alloc_a6v ho hw (h _ _ ⟨rfl, World.size_alloc _ _⟩ (a6v_new _ _) ((Below.refl _ _).alloc (Nat.le_refl _) _))

theorem A6vAt.kp {w w' : World} {O : Nat} {o : A6} (h : A6vAt w O o) (k : Kp w w') : A6vAt w' O o := k.block O _ _ h (by decide) (by decide) (by decide)
theorem A6vAt.op {w : World} {O : Nat} {s : A6} (h : A6vAt w O s) (k : Nat) (hk : k < 6) : ∃ ov, w.rangeAt O (k * 5) (opC ov).toList := by
  rcases (show k = 0 ∨ k = 1 ∨ k = 2 ∨ k = 3 ∨ k = 4 ∨ k = 5 by omega) with rfl | rfl | rfl | rfl | rfl | rfl
  · exact ⟨s.x0, h.range 0 5⟩
  · exact ⟨s.x1, h.range 5 5⟩
  · exact ⟨s.x2, h.range 10 5⟩
  · exact ⟨s.x3, h.range 15 5⟩
  · exact ⟨s.x4, h.range 20 5⟩
  · exact ⟨s.x5, h.range 25 5⟩
theorem qls_two : qls two0 = two0 := if_pos two0_ok
theorem range_below {w w' : World} {g off : Nat} {L : List Value} (h : w.rangeAt g off L) (b : Below w.heap.size w w') : w'.rangeAt g off L := fun j u hj => (World.cell?_of_block (b.block _ (World.block_lt_of_cell? _ _ (h j u hj)))).trans (h j u hj)
set_option maxHeartbeats 6400000 in
set_option maxRecDepth 100000 in
theorem started_any (w : World) : Calls Try.prog 33 #[] w fun e w' => e = .returned (.bool true) ∧ Below w.heap.size w w' := by

  go_enter Try.func33, Try.ntmps33
  go_wp2_with fail
  refine Calls.mono (two_any w) ?_
  rintro e1 w1 ⟨rfl, l1, _, b1⟩
  obtain ⟨B, hB⟩ : ∃ B, w.heap.size = B := ⟨_, rfl⟩
  rw [hB] at l1 ⊢
  have QM : Hid _ := made_any (some ⟨B, 0, none⟩) 2 2 two0 w1 rfl l1 (by decide)
  rw [qls_two] at QM
  have H1 : Hid (Below w.heap.size w w1) := b1
  clear l1 b1 hB
  go_wp2_with fail
  refine Calls.mono QM.out ?_
  rintro e2 w2 ⟨P, G, u, rfl, q2, a2, b2, hP, hG⟩
  have H2 : Hid (Q1 w P G (c0s two0) tz w2 ∧ AL w2 u (c0s two0) tz (two0.map rmk)) := by
    have hs := H1.out.size
    exact ⟨⟨two0.map mk, csOf_mk _, q2, bthen H1.out b2, mk_out (by omega) (by omega)⟩, a2⟩
  clear q2 a2 b2 hP hG QM
  go_upto_region 2 with (first | (refine wpList_nil_sdv rfl rfl ?_; intro B1 X hB1 hX bX) | (refine wpList_store_sdv (.tmp 1) (.tmp 8) rfl rfl B1 sz0 ⟨some ⟨P, 0, none⟩, u⟩ rfl rfl hX rfl ?_; intro w3 h3 k3))
  have HB1 : Hid (w.heap.size ≤ B1) := by
    have g1 := hB1.out
    have g2 := H2.out.1.bel.size
    show _ ≤ _
    omega
  have H3 : Hid (SdvAt w3 B1 ⟨some ⟨P, 0, none⟩, u⟩ ∧ Q1 w P G (c0s two0) tz w3 ∧ AL w3 u (c0s two0) tz (two0.map rmk)) := ⟨h3, (und1 w P G).ch (H2.out.1.below bX) k3 HB1.out hX (by decide) (by decide) (by decide), (H2.out.2.below bX).ks k3 hX (by decide) (by decide)⟩
  clear hB1 hX bX h3 k3 H2
  go_upto_region 3 with (first | (refine wpList_nil_a6v rfl rfl ?_; intro B3 X hB3 hX bX) | (refine wpList_store_a6v (.tmp 3) (.tmp 16) rfl rfl B3 a6z six0 rfl rfl hX rfl ?_; intro w4 h4 k4))
  have HB3 : Hid (B1 < B3) := by
    have g1 := hB3.out
    have g2 := (Array.getElem?_eq_some_iff.1 H3.out.1).1
    show _ < _
    omega
  have H4 : Hid (SdvAt w4 B1 ⟨some ⟨P, 0, none⟩, u⟩ ∧ A6vAt w4 B3 six0 ∧ Q1 w P G (c0s two0) tz w4 ∧ AL w4 u (c0s two0) tz (two0.map rmk)) := by
    have g1 := HB1.out
    have g2 := HB3.out
    exact ⟨(H3.out.1.below bX).ch k4 (by omega), h4, (und1 w P G).ch (H3.out.2.1.below bX) k4 (by omega) hX (by decide) (by decide) (by decide), (H3.out.2.2.below bX).ks k4 hX (by decide) (by decide)⟩
  clear hB3 hX bX h4 k4 H3 H1
  go_wp2_with fail
  go_loopw [2, 4] (fun bv iv wr => ∃ (k : Nat) (v : RQ) (rs : List RL) (cs : List CL) (t : TN), k ≤ 6 ∧ bv = .bool true ∧ iv = .int .i64 (k : Nat) ∧ Hid (SdvAt wr B1 ⟨some ⟨P, 0, none⟩, v⟩ ∧ A6vAt wr B3 six0 ∧ Q1 w P G cs t wr ∧ AL wr v cs t rs)) (fun _ iv _ => 6 - (intOf iv).toNat)
  case atStart => exact ⟨0, u, _, _, _, by decide, rfl, rfl, H4.out⟩
  case round =>
    obtain ⟨k, v, rs, cs, t, hk, rfl, rfl, HI⟩ := hrel
    by_cases hkn : k < 6
    · have p1 : decide ((k : Int) < 6) = true := decide_eq_true (by omega)
      have k0 : (0 : Int) ≤ (k : Int) := by omega
      have k1 : (k : Int) < 6 := by omega
      have k2 : ((k : Int)).toNat = k := by omega
      have wk : IntKind.i64.wrap ((k : Int) + 1) = (k : Int) + 1 := i64_s _ (by omega) (by omega)
      obtain ⟨⟨kd, tw, cl, sz, it⟩, hov⟩ := HI.out.2.1.op k hkn
      have HRG : Hid (wr.rangeAt B3 (k * 5) (opC ⟨kd, tw, cl, sz, it⟩).toList ∧ k < 6) := ⟨hov, hkn⟩
      clear hov hk hkn
      go_upto_region 6 with fail
      refine MixH.start (fun A => True) (by kernel_rfl) ?_
      obtain ⟨wA, hwA⟩ : ∃ W_, W_ = wr.drew := ⟨_, rfl⟩
      have bdr : Below wr.heap.size wr wA := by rw [hwA]; exact (Below.refl _ _).drew
      have hS : True := trivial
      have HA : Hid ((SdvAt wA B1 ⟨some ⟨P, 0, none⟩, v⟩ ∧ A6vAt wA B3 six0 ∧ Q1 w P G cs t wA ∧ AL wA v cs t rs) ∧ wA.rangeAt B3 (k * 5) (opC ⟨kd, tw, cl, sz, it⟩).toList) := ⟨⟨HI.out.1.below bdr, HI.out.2.1.below bdr, HI.out.2.2.1.below bdr, HI.out.2.2.2.below bdr⟩, range_below HRG.out.1 bdr⟩
      have QS : Hid _ := step_any (und1 w P G) v rs cs t kd cl sz it tw wA HA.out.1.2.2.1 HA.out.1.2.2.2
      rw [← hwA]
      clear hwA bdr
      refine MixH.takes [false, true, true] 8 (by kernel_rfl) (by kernel_rfl) (by decide) (by kernel_rfl) hS (fun K hK => ?_)
      simp only [Mix.pick]
      repeat (go_big_quiet_step (fail))
      refine wpQuiet_nil (hK _ ?_)
      clear hK K
      refine MixH.pair [true] [false, false, false, true] 7 0 3 _ _ rfl rfl rfl rfl (by kernel_rfl) (by kernel_rfl) (fun K hK => ?_) (fun K hK => ?_)
      · simp only [Mix.pick]
        refine wpList_load_sdv (.tmp 1) rfl B1 ⟨some ⟨P, 0, none⟩, v⟩ rfl HA.out.1.1 rfl ?_
        refine wpList_nil ?_
        refine ⟨rfl, hK _ _ hS ?_⟩
        clear hK K
        refine MixH.one [false, false, false, true] 6 3 _ rfl rfl (by kernel_rfl) (by kernel_rfl) (fun K hK => ?_)
        simp only [Mix.pick]
        refine wpList_mid_opv (.tmp 27) rfl B3 (k * 5) ⟨kd, tw, cl, sz, it⟩ rfl HA.out.2 rfl ?_
        refine wpList_nil ?_
        refine ⟨rfl, hK _ _ hS ?_⟩
        clear hK K
        refine MixH.one [false, false, false, false, true] 5 4 _ rfl rfl (by kernel_rfl) (by kernel_rfl) (fun K hK => ?_)
        simp only [Mix.pick]
        go_wp2_with fail
        refine Calls.mono (QS.out) ?_
        rintro e5 w5 ⟨v', rs', cs', t', rfl, j5, a5, k5⟩
        have H5 : Hid (SdvAt w5 B1 ⟨some ⟨P, 0, none⟩, v⟩ ∧ A6vAt w5 B3 six0 ∧ Q1 w P G cs' t' w5 ∧ AL w5 v' cs' t' rs') := ⟨HA.out.1.1.kp k5, HA.out.1.2.1.kp k5, j5, a5⟩
        clear j5 a5 k5 QS
        go_wp2_with fail
        refine ⟨rfl, hK _ _ hS ?_⟩
        clear hK K
        refine MixH.takes [false, false, false, false, false, true, true, true] 2 (by kernel_rfl) (by kernel_rfl) (by decide) (by kernel_rfl) hS (fun K hK => ?_)
        simp only [Mix.pick]
        repeat (go_big_quiet_step (fail))
        refine wpQuiet_nil (hK _ ?_)
        clear hK K
        refine MixH.one [false, false, false, false, false, false, false, false, true] 1 8 _ rfl rfl (by kernel_rfl) (by kernel_rfl) (fun K hK => ?_)
        simp only [Mix.pick]
        refine wpList_store_sdv (.tmp 1) (.tmp 30) rfl rfl B1 ⟨some ⟨P, 0, none⟩, v⟩ ⟨some ⟨P, 0, none⟩, v'⟩ rfl rfl H5.out.1 rfl ?_
        intro w6 h6 k6
        refine wpList_nil ?_
        have H6 : Hid (SdvAt w6 B1 ⟨some ⟨P, 0, none⟩, v'⟩ ∧ A6vAt w6 B3 six0 ∧ Q1 w P G cs' t' w6 ∧ AL w6 v' cs' t' rs') := by
          have g1 := HB3.out
          exact ⟨h6, H5.out.2.1.ch k6 (by omega), (und1 w P G).ch H5.out.2.2.1 k6 HB1.out H5.out.1 (by decide) (by decide) (by decide), H5.out.2.2.2.ks k6 H5.out.1 (by decide) (by decide)⟩
        clear h6 k6
        refine ⟨rfl, hK _ _ hS ?_⟩
        clear hK K
        refine MixH.takes [false, false, false, false, false, false, false, false, false, true] 0 (by kernel_rfl) (by kernel_rfl) (by decide) (by kernel_rfl) hS (fun K hK => ?_)
        simp only [Mix.pick]
        repeat (go_big_quiet_step (fail))
        refine wpQuiet_nil (hK _ ?_)
        clear hK K
        refine MixH.done (by kernel_rfl) ?_
        go_wp2_with fail
        go_roundw
        case rel => exact ⟨k + 1, v', rs', cs', t', by have := HRG.out.2; omega, rfl, rfl, H6.out⟩
        case measure => simp only [intOf]; have := HRG.out.2; omega
      · simp only [Mix.pick]
        refine wpList_mid_opv (.tmp 27) rfl B3 (k * 5) ⟨kd, tw, cl, sz, it⟩ rfl HA.out.2 rfl ?_
        refine wpList_nil ?_
        refine ⟨rfl, hK _ _ hS ?_⟩
        clear hK K
        refine MixH.one [true] 6 0 _ rfl rfl (by kernel_rfl) (by kernel_rfl) (fun K hK => ?_)
        simp only [Mix.pick]
        refine wpList_load_sdv (.tmp 1) rfl B1 ⟨some ⟨P, 0, none⟩, v⟩ rfl HA.out.1.1 rfl ?_
        refine wpList_nil ?_
        refine ⟨rfl, hK _ _ hS ?_⟩
        clear hK K
        refine MixH.one [false, false, false, false, true] 5 4 _ rfl rfl (by kernel_rfl) (by kernel_rfl) (fun K hK => ?_)
        simp only [Mix.pick]
        go_wp2_with fail
        refine Calls.mono (QS.out) ?_
        rintro e5 w5 ⟨v', rs', cs', t', rfl, j5, a5, k5⟩
        have H5 : Hid (SdvAt w5 B1 ⟨some ⟨P, 0, none⟩, v⟩ ∧ A6vAt w5 B3 six0 ∧ Q1 w P G cs' t' w5 ∧ AL w5 v' cs' t' rs') := ⟨HA.out.1.1.kp k5, HA.out.1.2.1.kp k5, j5, a5⟩
        clear j5 a5 k5 QS
        go_wp2_with fail
        refine ⟨rfl, hK _ _ hS ?_⟩
        clear hK K
        refine MixH.takes [false, false, false, false, false, true, true, true] 2 (by kernel_rfl) (by kernel_rfl) (by decide) (by kernel_rfl) hS (fun K hK => ?_)
        simp only [Mix.pick]
        repeat (go_big_quiet_step (fail))
        refine wpQuiet_nil (hK _ ?_)
        clear hK K
        refine MixH.one [false, false, false, false, false, false, false, false, true] 1 8 _ rfl rfl (by kernel_rfl) (by kernel_rfl) (fun K hK => ?_)
        simp only [Mix.pick]
        refine wpList_store_sdv (.tmp 1) (.tmp 30) rfl rfl B1 ⟨some ⟨P, 0, none⟩, v⟩ ⟨some ⟨P, 0, none⟩, v'⟩ rfl rfl H5.out.1 rfl ?_
        intro w6 h6 k6
        refine wpList_nil ?_
        have H6 : Hid (SdvAt w6 B1 ⟨some ⟨P, 0, none⟩, v'⟩ ∧ A6vAt w6 B3 six0 ∧ Q1 w P G cs' t' w6 ∧ AL w6 v' cs' t' rs') := by
          have g1 := HB3.out
          exact ⟨h6, H5.out.2.1.ch k6 (by omega), (und1 w P G).ch H5.out.2.2.1 k6 HB1.out H5.out.1 (by decide) (by decide) (by decide), H5.out.2.2.2.ks k6 H5.out.1 (by decide) (by decide)⟩
        clear h6 k6
        refine ⟨rfl, hK _ _ hS ?_⟩
        clear hK K
        refine MixH.takes [false, false, false, false, false, false, false, false, false, true] 0 (by kernel_rfl) (by kernel_rfl) (by decide) (by kernel_rfl) hS (fun K hK => ?_)
        simp only [Mix.pick]
        repeat (go_big_quiet_step (fail))
        refine wpQuiet_nil (hK _ ?_)
        clear hK K
        refine MixH.done (by kernel_rfl) ?_
        go_wp2_with fail
        go_roundw
        case rel => exact ⟨k + 1, v', rs', cs', t', by have := HRG.out.2; omega, rfl, rfl, H6.out⟩
        case measure => simp only [intOf]; have := HRG.out.2; omega
    · have p1 : decide ((k : Int) < 6) = false := decide_eq_false (by omega)
      clear hkn hk
      go_wp2_with fail
      go_ret
      exact ⟨rfl, HI.out.2.2.1.bel⟩
end Go.Proofs.Ytcdbhkihbfjedaa
