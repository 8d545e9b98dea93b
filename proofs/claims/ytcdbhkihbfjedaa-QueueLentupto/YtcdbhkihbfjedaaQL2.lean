/-
  Layer 18: one place in memory for lists of classes: stand.
-/
import Derived.Test.YtcdbhkihbfjedaaQL1
namespace Go.Proofs.Ytcdbhkihbfjedaa
open Go.RowKit Go.ChangeShapes Go.WideShapes

theorem wpList_box_lim {ops : Array Oper} {rest : List Oper} {o : Oper} {a : Act} {w : World} {Q : Exit → Act → World → Prop} (x : Operand) (ho : o.op = .box 36 x) (lv : LI) (hx : a.eval x = .agg (liA lv)) (hw : Region.wanted o (yielded ops a.tmps) = true)
    (h : ∀ B W, Hid (w.heap.size = B ∧ W.heap.size = B + 1) → LimAt W B lv → Below w.heap.size w W → wpList Try.prog ops Q rest (a.put o.dst (.pointer (some ⟨B, 0, none⟩))) W) : wpList Try.prog ops Q (o :: rest) a w := by
  refine wpList_step fun K hK => ?_
  rw [if_pos hw]
  have hrun : (execOp a.eval o).run Try.prog w = .ok (.value (.pointer (some ⟨w.heap.size, 0, none⟩))) (w.alloc (.cells (liA lv) 36)) := by
    obtain ⟨dst, op, type, pos, after, guard⟩ := o
    simp only at ho
    subst ho
    simp only [execOp, hx]
    go_simp
  unfold Oper.wp
  rw [hrun]
  exact hK _ _ (h _ _ ⟨rfl, World.size_alloc _ _⟩ (lim_new _ _) ((Below.refl _ _).alloc (Nat.le_refl _) _))
theorem wpList_nil_lim {ops : Array Oper} {rest : List Oper} {o : Oper} {a : Act} {w : World} {Q : Exit → Act → World → Prop} (ho : o.op = .alloc 36) (hw : Region.wanted o (yielded ops a.tmps) = true)
    (h : ∀ B W, Hid (w.heap.size = B ∧ W.heap.size = B + 1) → LimAt W B lz → Below w.heap.size w W → wpList Try.prog ops Q rest (a.put o.dst (.pointer (some ⟨B, 0, none⟩))) W) : wpList Try.prog ops Q (o :: rest) a w :=
  wpList_alloc_lim ho hw (h _ _ ⟨rfl, World.size_alloc _ _⟩ (lim_new _ _) ((Below.refl _ _).alloc (Nat.le_refl _) _))
theorem yields_lis {ops : Array Oper} {o : Oper} {a : Act} {S : World → Prop} (x : Operand) (ho : o.op = .load 22 x) (p : Addr) (u : Value) (hx : a.eval x = .pointer (some p)) (hw : Region.wanted o (yielded ops a.tmps) = true) (hS : ∀ w, S w → w.cell? p = some u) : YieldsIf Try.prog ops S o u a := by
  refine .inl ⟨hw, fun w hb => ?_⟩
  have hc := hS w hb
  have hu := Try.underlying22
  obtain ⟨dst, op, type, pos, after, guard⟩ := o
  simp only at ho
  subst ho
  simp only [execOp, Sem.run_bind, Sem.run_pure]
  rw [hx]
  go_simp
theorem yields_neq_lim {ops : Array Oper} {o : Oper} {a : Act} {S : World → Prop} (X Y : Operand) (ho : o.op = .binOp .neq 36 X Y 36) (e : LI) (hx : a.eval X = .agg (liA e)) (hy : a.eval Y = .agg (liA e)) (hw : Region.wanted o (yielded ops a.tmps) = true) : YieldsIf Try.prog ops S o (.bool false) a := by
  refine .inl ⟨hw, fun w _ => ?_⟩
  obtain ⟨dst, op, type, pos, after, guard⟩ := o
  simp only at ho
  subst ho
  simp only [execOp, Sem.run_bind, Sem.run_pure, hx, hy, run_eqGuard_agg w .neq 36 _ _ _ _ Try.limGuard, Result.andThen_ok, run_neq_struct, eq_lim, Bool.not_true]
set_option maxHeartbeats 3200000 in
set_option maxRecDepth 100000 in
theorem stand_any (W0 : World) (base R g vc : Nat) (L : List LI) (a : Option Addr) (n cap : Nat) (ls : List LI) (ok : LI → Prop) (w : World) (hl : ls.length = n) (hL : ListG 5 liL ok W0 a ls) (hB : Below W0.heap.size W0 w) (hM : Marks ls L) (hr : Rm base w R (some ⟨g, 0, none⟩) vc (n : Int) L) : Calls Try.prog 38 #[.pointer (some ⟨R, 0, none⟩), .slice a n cap] w fun e w' => e = .returned (.bool true) ∧ Below w.heap.size w w' := by
  have HL : Hid (ls.length = n ∧ ListG 5 liL ok W0 a ls ∧ Below W0.heap.size W0 w ∧ Marks ls L) := ⟨hl, hL, hB, hM⟩
  obtain ⟨m, hm⟩ : ∃ m, L.length = m := ⟨_, rfl⟩
  have hm3 : m ≤ 3000000 := by rw [← hm]; exact hr.big
  have H0 : Hid (RmvAt w R ⟨some ⟨g, 0, none⟩, m, vc, (n : Int)⟩ ∧ GL 5 liL 36 w base (.slice (some ⟨g, 0, none⟩) m vc) L ∧ L.length = m) := by rw [← hm]; exact ⟨hr.at', hr.gl, rfl⟩
  clear hl hL hB hM hr hm
  go_enter Try.func38, Try.ntmps38
  go_wp2_with fail
  go_loopw [5] (fun iv wr => ∃ (k : Nat), k ≤ m ∧ iv = .int .i64 (k : Nat) ∧ Hid (Below w.heap.size w wr)) (fun iv _ => m - (intOf iv).toNat)
  case atStart => exact ⟨0, Nat.zero_le _, rfl, Below.refl _ _⟩
  case round =>
    obtain ⟨k, hk, rfl, HI⟩ := hrel
    have c0 : wr.cell? ⟨R, 0, none⟩ = some (.slice (some ⟨g, 0, none⟩) m vc) := (H0.out.1.below HI.out).cell 0
    by_cases hkn : k < m
    · have p1 : decide ((k : Int) < (m : Int)) = true := decide_eq_true (by omega)
      have p2 : decide (k < m) = true := decide_eq_true hkn
      have k0 : (0 : Int) ≤ (k : Int) := by omega
      have k1 : (k : Int) < (m : Int) := by omega
      have k2 : ((k : Int)).toNat = k := by omega
      have wk : IntKind.i64.wrap ((k : Int) + 1) = (k : Int) + 1 := i64_s _ (by omega) (by omega)
      have ws : IntKind.i64.wrap (-500 - (k : Int)) = -500 - (k : Int) := i64_s _ (by omega) (by omega)
      have HKN : Hid (k < m) := hkn
      clear hkn hk
      go_upto_region 5 with (first | (refine wpList_bq1 _ rfl (-500 - (k : Int)) rfl rfl ?_) | (refine wpList_nil_lim rfl rfl ?_; intro B6 X hB hX bX) | (refine wpList_store_lim (.tmp 6) (.tmp 18) rfl rfl B6 lz (m5 k) rfl rfl hX rfl ?_; intro x1 h1 kk1))
      have bx : Below wr.heap.size wr x1 := bX.trans (kk1.below (fun q hq => by have g1 := hB.out; omega) bX.size)
      have H6 : Hid (LimAt x1 B6 (m5 k) ∧ Below w.heap.size w x1) := ⟨h1, bthen HI.out bx⟩
      have HB6 : Hid (w.heap.size ≤ B6) := by have g1 := hB.out; have g2 := HI.out.size; show _ ≤ _; omega
      clear hB hX bX h1 kk1 bx c0
      by_cases hn : k < n
      · have r1 : decide ((k : Int) < (n : Int)) = true := decide_eq_true (by omega)
        have r2 : decide (k < n) = true := decide_eq_true hn
        have r3 : (k : Int) < (n : Int) := by omega
        obtain ⟨l, hl⟩ : ∃ l, ls[k]? = some l := ⟨_, List.getElem?_eq_getElem (by rw [HL.out.1]; exact hn)⟩
        obtain ⟨ab, off, ha, hra⟩ := (HL.out.2.1.old (HL.out.2.2.1.trans (H6.out.2.mono HL.out.2.2.1.size))).rng liL_len k l hl
        subst ha
        have HRA : Hid (x1.rangeAt ab (off + k * 5) (liA l).toList) := hra
        have HX : Hid (w.rangeAt g (k * 5) (liA l).toList) := H0.out.2.1.range liL_len k l ((HL.out.2.2.2.a k (by rw [HL.out.1]; exact hn)).trans hl)
        clear hl hra hn
        go_wp2_with (first | (refine wpList_mid_lim (.tmp 25) rfl ab (off + k * 5) l rfl HRA.out rfl ?_) | (refine wpList_store_lim (.tmp 6) (.tmp 26) rfl rfl B6 (m5 k) l rfl rfl H6.out.1 rfl ?_))
        intro x2 h2 kk2
        have H7 : Hid (LimAt x2 B6 l ∧ Below w.heap.size w x2) := ⟨h2, H6.out.2.trans (kk2.below (fun q hq => by have g1 := HB6.out; omega) H6.out.2.size)⟩
        clear h2 kk2 H6 HRA
        have H6 : Hid _ := H7.out
        clear H7
        go_upto_region 7 with fail
        refine MixH.start (fun A => RmvAt A R ⟨some ⟨g, 0, none⟩, m, vc, (n : Int)⟩ ∧ A.rangeAt g (k * 5) (liA l).toList ∧ LimAt A B6 l) (by kernel_rfl) ?_
        obtain ⟨wA, hwA⟩ : ∃ W_, W_ = x2.drew := ⟨_, rfl⟩
        have bdr : Below x2.heap.size x2 wA := by rw [hwA]; exact (Below.refl _ _).drew
        have hS : RmvAt wA R ⟨some ⟨g, 0, none⟩, m, vc, (n : Int)⟩ ∧ wA.rangeAt g (k * 5) (liA l).toList ∧ LimAt wA B6 l := ⟨(H0.out.1.below H6.out.2).below bdr, range_below (range_below HX.out H6.out.2) bdr, H6.out.1.below bdr⟩
        have HA : Hid (Below w.heap.size w wA) := bthen H6.out.2 bdr
        rw [← hwA]
        clear hwA bdr
        refine MixH.takes [true, true, true, false, true] 5 (by kernel_rfl) (by kernel_rfl) (by decide) (by kernel_rfl) hS (fun K hK => ?_)
        simp only [Mix.pick]
        repeat (go_big_quiet_step (fail))
        refine wpQuiet_nil (hK _ ?_)
        clear hK K
        refine MixH.take 4 3 _ (.slice (some ⟨g, 0, none⟩) m vc) rfl (by kernel_rfl) (by kernel_rfl) (by kernel_rfl) (by kernel_rfl) (yields_lis (.tmp 29) rfl ⟨R, 0, none⟩ (.slice (some ⟨g, 0, none⟩) m vc) rfl rfl (fun A hA => hA.1.cell 0)) hS (fun a' ha => ?_)
        simp only [Act.put, List.setIfInBounds_toArray, List.set_cons_succ, List.set_cons_zero] at ha
        subst ha
        refine MixH.takes [false, false, false, false, false, true] 3 (by kernel_rfl) (by kernel_rfl) (by decide) (by kernel_rfl) hS (fun K hK => ?_)
        simp only [Mix.pick]
        repeat (go_big_quiet_step (fail))
        refine wpQuiet_nil (hK _ ?_)
        clear hK K
        refine MixH.take 2 6 _ (.agg (liA l)) rfl (by kernel_rfl) (by kernel_rfl) (by kernel_rfl) (by kernel_rfl) (yields_lim (.tmp 32) rfl g (k * 5) l rfl rfl (fun A hA => hA.2.1)) hS (fun a' ha => ?_)
        simp only [Act.put, List.setIfInBounds_toArray, List.set_cons_succ, List.set_cons_zero] at ha
        subst ha
        refine MixH.take 1 7 _ (.agg (liA l)) rfl (by kernel_rfl) (by kernel_rfl) (by kernel_rfl) (by kernel_rfl) (yields_lim (.tmp 6) rfl B6 0 l rfl rfl (fun A hA => hA.2.2.range 0 5)) hS (fun a' ha => ?_)
        simp only [Act.put, List.setIfInBounds_toArray, List.set_cons_succ, List.set_cons_zero] at ha
        subst ha
        refine MixH.take 0 8 _ (.bool false) rfl (by kernel_rfl) (by kernel_rfl) (by kernel_rfl) (by kernel_rfl) (yields_neq_lim (.tmp 33) (.tmp 34) rfl l rfl rfl rfl) hS (fun a' ha => ?_)
        simp only [Act.put, List.setIfInBounds_toArray, List.set_cons_succ, List.set_cons_zero] at ha
        subst ha
        refine MixH.done (by kernel_rfl) ?_
        clear hS
        go_wp2_with fail
        go_roundw
        case rel => exact ⟨k + 1, by have := HKN.out; omega, rfl, HA.out⟩
        case measure => simp only [intOf]; have := HKN.out; omega
      · have r1 : decide ((k : Int) < (n : Int)) = false := decide_eq_false (by omega)
        have r2 : decide (k < n) = false := decide_eq_false hn
        have HX : Hid (w.rangeAt g (k * 5) (liA (m5 k)).toList) := H0.out.2.1.range liL_len k (m5 k) (HL.out.2.2.2.b k (by rw [HL.out.1]; omega) (by rw [H0.out.2.2]; exact HKN.out))
        clear hn
        go_upto_region 7 with fail
        refine MixH.start (fun A => RmvAt A R ⟨some ⟨g, 0, none⟩, m, vc, (n : Int)⟩ ∧ A.rangeAt g (k * 5) (liA (m5 k)).toList ∧ LimAt A B6 (m5 k)) (by kernel_rfl) ?_
        obtain ⟨wA, hwA⟩ : ∃ W_, W_ = x1.drew := ⟨_, rfl⟩
        have bdr : Below x1.heap.size x1 wA := by rw [hwA]; exact (Below.refl _ _).drew
        have hS : RmvAt wA R ⟨some ⟨g, 0, none⟩, m, vc, (n : Int)⟩ ∧ wA.rangeAt g (k * 5) (liA (m5 k)).toList ∧ LimAt wA B6 (m5 k) := ⟨(H0.out.1.below H6.out.2).below bdr, range_below (range_below HX.out H6.out.2) bdr, H6.out.1.below bdr⟩
        have HA : Hid (Below w.heap.size w wA) := bthen H6.out.2 bdr
        rw [← hwA]
        clear hwA bdr
        refine MixH.takes [true, true, true, false, true] 5 (by kernel_rfl) (by kernel_rfl) (by decide) (by kernel_rfl) hS (fun K hK => ?_)
        simp only [Mix.pick]
        repeat (go_big_quiet_step (fail))
        refine wpQuiet_nil (hK _ ?_)
        clear hK K
        refine MixH.take 4 3 _ (.slice (some ⟨g, 0, none⟩) m vc) rfl (by kernel_rfl) (by kernel_rfl) (by kernel_rfl) (by kernel_rfl) (yields_lis (.tmp 29) rfl ⟨R, 0, none⟩ (.slice (some ⟨g, 0, none⟩) m vc) rfl rfl (fun A hA => hA.1.cell 0)) hS (fun a' ha => ?_)
        simp only [Act.put, List.setIfInBounds_toArray, List.set_cons_succ, List.set_cons_zero] at ha
        subst ha
        refine MixH.takes [false, false, false, false, false, true] 3 (by kernel_rfl) (by kernel_rfl) (by decide) (by kernel_rfl) hS (fun K hK => ?_)
        simp only [Mix.pick]
        repeat (go_big_quiet_step (fail))
        refine wpQuiet_nil (hK _ ?_)
        clear hK K
        refine MixH.take 2 6 _ (.agg (liA (m5 k))) rfl (by kernel_rfl) (by kernel_rfl) (by kernel_rfl) (by kernel_rfl) (yields_lim (.tmp 32) rfl g (k * 5) (m5 k) rfl rfl (fun A hA => hA.2.1)) hS (fun a' ha => ?_)
        simp only [Act.put, List.setIfInBounds_toArray, List.set_cons_succ, List.set_cons_zero] at ha
        subst ha
        refine MixH.take 1 7 _ (.agg (liA (m5 k))) rfl (by kernel_rfl) (by kernel_rfl) (by kernel_rfl) (by kernel_rfl) (yields_lim (.tmp 6) rfl B6 0 (m5 k) rfl rfl (fun A hA => hA.2.2.range 0 5)) hS (fun a' ha => ?_)
        simp only [Act.put, List.setIfInBounds_toArray, List.set_cons_succ, List.set_cons_zero] at ha
        subst ha
        refine MixH.take 0 8 _ (.bool false) rfl (by kernel_rfl) (by kernel_rfl) (by kernel_rfl) (by kernel_rfl) (yields_neq_lim (.tmp 33) (.tmp 34) rfl (m5 k) rfl rfl rfl) hS (fun a' ha => ?_)
        simp only [Act.put, List.setIfInBounds_toArray, List.set_cons_succ, List.set_cons_zero] at ha
        subst ha
        refine MixH.done (by kernel_rfl) ?_
        clear hS
        go_wp2_with fail
        go_roundw
        case rel => exact ⟨k + 1, by have := HKN.out; omega, rfl, HA.out⟩
        case measure => simp only [intOf]; have := HKN.out; omega
    · have p1 : decide ((k : Int) < (m : Int)) = false := decide_eq_false (by omega)
      have p2 : decide (k < m) = false := decide_eq_false hkn
      have c1 : wr.cell? ⟨R, 1, none⟩ = some (.int .i64 (n : Int)) := (H0.out.1.below HI.out).cell 1
      clear hkn hk
      go_wp2_with fail
      go_ret
      exact ⟨rfl, HI.out⟩
end Go.Proofs.Ytcdbhkihbfjedaa
