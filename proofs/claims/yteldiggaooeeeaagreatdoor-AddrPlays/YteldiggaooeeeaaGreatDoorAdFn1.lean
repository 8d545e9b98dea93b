/-
  Layer 4: bits, Mask, ValidPrefix.
-/
import Derived.Test.YteldiggaooeeeaaGreatDoorAdSt
namespace Go.Proofs.YteldiggaooeeeaaGreatDoor
open Go.RowKit

def bitV (V : Int) : Nat := if V = 4 then 32 else 128
def mkE (V : Int) (x : Nat → Nat) (n : Int) : Nat := if vld V x = false then 40 else if n < 0 ∨ (bitV V : Int) < n then 45 else 0
def mkV (V : Int) (x : Nat → Nat) (n : Int) : Int := if mkE V x n = 0 then V else 0
def mkX (V : Int) (x : Nat → Nat) (n : Int) : Nat → Nat := if mkE V x n = 0 then hdA x n.toNat else fun _ => 0
def vpE (p : PV) : Nat := if mkE p.V p.x p.n = 0 then (if same16 (hdA p.x p.n.toNat) p.x = true then 0 else 46) else mkE p.V p.x p.n
theorem bitV_le (V : Int) : bitV V ≤ 128 := by unfold bitV; split <;> omega
theorem hdX {p : PV} (h : mkE p.V p.x p.n = 0) : hdA p.x p.n.toNat = mkX p.V p.x p.n := by unfold mkX; rw [if_pos h]
theorem results_ipr_tmp {fn : Func} {p u0 : Tmp} (h : fn.results = #[.cell p 28, .tmp u0]) (tmps : Array Value) (w : World) (O : Nat) (V : Int) (f : Nat → Nat) (hp : tmps.getD p undef = .pointer (some ⟨O, 0, none⟩)) (hb : IprAt w O V f) :
    (results fn tmps).run Tryz.prog w = .ok (.tuple #[.agg (ipCells V f), tmps.getD u0 undef]) w := by
  rw [results_cell_tmp h tmps Tryz.prog w, hp]
  simp [asAddr, run_loadVar_row w O _ 28 (ipCells V f) _ _ hb Tryz.underlying28 rfl Tryz.size_ipr, Result.andThen]
theorem run_buildip (V : Int) (f : Nat → Nat) (w : World) : (Instr.build 28 #[(0, .int .i64 V), (1, .agg (arCells f))]).run Tryz.prog w = .ok (.agg (ipCells V f)) w := by kernel_rfl
theorem built_ip (V : Int) (f : Nat → Nat) (w : World) : (Instr.build 28 #[(0, .int .i64 V), (1, .agg (arCells f))]).run Tryz.prog w = .ok (.agg (ipCells V f)) w := run_buildip V f w
theorem yields_buildip {ops : Array Oper} {S : World → Prop} {o : Oper} {a : Act} (x y : Operand) (ho : o.op = .build 28 #[(0, x), (1, y)]) (V : Int) (f : Nat → Nat) (hx : a.eval x = .int .i64 V) (hy : a.eval y = .agg (arCells f))
    (hw : Region.wanted o (yielded ops a.tmps) = true) : YieldsIf Tryz.prog ops S o (.agg (ipCells V f)) a := by
  refine .inl ⟨hw, fun w _ => ?_⟩
  unfold execOp
  simp only [ho, Sem.run_bind, List.map_toArray, List.map_cons, List.map_nil, hx, hy, built_ip V f w, Result.andThen_ok]
  rfl
theorem wpList_neq_ar {ops : Array Oper} {rest : List Oper} {o : Oper} {a : Act} {w : World} {Q : Exit → Act → World → Prop} (X Y : Operand) (ho : o.op = .binOp .neq 26 X Y 26) (x y : Nat → Nat) (hx : a.eval X = .agg (arCells x)) (hy : a.eval Y = .agg (arCells y)) (b : Bool) (hbb : (!(same16 x y)) = b) (hw : Region.wanted o (yielded ops a.tmps) = true)
    (h : wpList Tryz.prog ops Q rest (a.put o.dst (.bool b)) w) : wpList Tryz.prog ops Q (o :: rest) a w := by
  refine wpList_step fun K hK => ?_
  rw [if_pos hw]
  have hrun : (execOp a.eval o).run Tryz.prog w = .ok (.value (.bool b)) w := by
    subst hbb
    obtain ⟨dst, op, type, pos, after, guard⟩ := o
    simp only at ho
    subst ho
    simp only [execOp, Sem.run_bind, Sem.run_pure, hx, hy, run_eqGuard_agg w .neq 26 _ _ _ _ Tryz.arGuard, Result.andThen_ok, run_neq_struct, eq16 x y w 9998]
  unfold Oper.wp
  rw [hrun]
  exact hK _ _ h
set_option maxHeartbeats 800000 in
set_option maxRecDepth 100000 in
theorem abits_any (V : Int) (x : Nat → Nat) (w : World) : Calls Tryz.prog 78 #[.agg (ipCells V x)] w fun e w' => e = .returned (.int .i64 (bitV V : Nat)) ∧ Below w.heap.size w w' := by
  have hb := ipr_new w V x
  have bel : Below w.heap.size w (w.alloc (.cells (ipCells V x) 28)) := (Below.refl _ _).alloc (Nat.le_refl _) _
  obtain ⟨C, hC⟩ : ∃ C, C = ipCells V x := ⟨_, rfl⟩
  obtain ⟨W, hW⟩ : ∃ W, W = w.alloc (.cells (ipCells V x) 28) := ⟨_, rfl⟩
  rw [← hW] at hb bel
  have k0 : W.cell? ⟨w.heap.size, 0, none⟩ = some (.int .i64 V) := hb.cell 0
  obtain ⟨B, hB⟩ : ∃ B, B = w.heap.size := ⟨_, rfl⟩
  rw [← hC] at hW ⊢
  rw [← hB] at k0
  have HB : Hid (w.heap.size = B) := hB.symm
  have HW : Hid (w.alloc (.cells C 28) = W) := hW.symm
  clear hb hW hB hC
  go_enter Tryz.func78, Tryz.ntmps78
  go_upto_region 1 with fail
  rw [HB.out, HW.out]
  by_cases h4 : V = 4
  · subst h4
    go_wp2
    go_ret
    exact ⟨rfl, bel⟩
  · have q : (V == 4) = false := by simpa using h4
    go_wp2
    go_ret
    exact ⟨by simp [bitV, h4], bel⟩
set_option maxHeartbeats 1600000 in
set_option maxRecDepth 100000 in
theorem mask_any (V : Int) (x : Nat → Nat) (n : Int) (w : World) (hx : ∀ i, i < 16 → x i < 256) : Calls Tryz.prog 55 #[.agg (ipCells V x), .int .i64 n] w fun e w' => e = .returned (.tuple #[.agg (ipCells (mkV V x n) (mkX V x n)), .int .i64 (mkE V x n : Nat)]) ∧ Below w.heap.size w w' := by
  have hb := ipr_new w V x
  have hr := ipr_new (w.alloc (.cells (ipCells V x) 28)) 0 (fun _ => 0)
  rw [World.size_alloc] at hr
  have hb2 := hb.below ((Below.refl _ _).alloc (Nat.le_refl _) (.cells (ipCells 0 (fun _ => 0)) 28))
  have bel : Below w.heap.size w ((w.alloc (.cells (ipCells V x) 28)).alloc (.cells (ipCells 0 (fun _ => 0)) 28)) := ((Below.refl _ _).alloc (Nat.le_refl _) _).alloc (by simp) _
  obtain ⟨C, hC⟩ : ∃ C, C = ipCells V x := ⟨_, rfl⟩
  obtain ⟨Z, hZ⟩ : ∃ Z, Z = ipCells 0 (fun _ => 0) := ⟨_, rfl⟩
  obtain ⟨W, hW⟩ : ∃ W, W = (w.alloc (.cells (ipCells V x) 28)).alloc (.cells (ipCells 0 (fun _ => 0)) 28) := ⟨_, rfl⟩
  rw [← hW] at hr hb2 bel
  obtain ⟨B, hB⟩ : ∃ B, B = w.heap.size := ⟨_, rfl⟩
  rw [← hB] at hr hb2
  have HBX : Hid (IprAt W B V x) := hb2
  have HR : Hid (IprAt W (B + 1) 0 (fun _ => 0)) := hr
  rw [← hC] at hW ⊢
  have HB : Hid (w.heap.size = B) := hB.symm
  have HBL : Hid (Below w.heap.size w W) := bel
  have HW : Hid ((w.alloc (.cells C 28)).alloc (.cells #[.int .i64 0, .int .u8 0, .int .u8 0, .int .u8 0, .int .u8 0, .int .u8 0, .int .u8 0, .int .u8 0, .int .u8 0, .int .u8 0, .int .u8 0, .int .u8 0, .int .u8 0, .int .u8 0, .int .u8 0, .int .u8 0, .int .u8 0] 28) = W) := hW.symm
  have HX : Hid (∀ i, i < 16 → x i < 256) := hx
  have QV : Hid _ := valid_any V x W hx
  obtain ⟨vl, hvl⟩ : ∃ vl, vl = vld V x := ⟨_, rfl⟩
  rw [← hvl] at QV
  have HVL : Hid (vld V x = vl) := hvl.symm
  clear hb hr hb2 hW hB hC hZ hx hvl bel
  go_enter Tryz.func55, Tryz.ntmps55
  go_upto_region 1 with fail
  rw [HB.out, HW.out]
  go_wp2_with (first | (refine wpList_load_ipr (.tmp 2) rfl B V x rfl HBX.out rfl ?_))
  refine Calls.mono QV.out ?_
  rintro e w1 ⟨rfl, hb1⟩
  have HBX1 : Hid (IprAt w1 B V x) := HBX.out.below hb1
  have HR1 : Hid (IprAt w1 (B + 1) 0 (fun _ => 0)) := HR.out.below hb1
  have HB1 : Hid (Below w.heap.size w w1) := bthen HBL.out hb1
  clear HBX HR HBL QV hb1 HW
  cases vl with
  | false =>
    go_wp2_with (first | (refine wpList_store_ipr (.tmp 4) _ rfl rfl (B + 1) 0 (fun _ => 0) 0 (fun _ => 0) rfl rfl HR1.out rfl ?_))
    intro wE hRE kE
    have HRE : Hid (IprAt wE (B + 1) 0 (fun _ => 0)) := hRE
    have HFE : Hid (Below w.heap.size w wE) := HB1.out.trans (kE.below (fun q e => by have e' : q = B + 1 := e; have := HB.out; omega) HB1.out.size)
    clear hRE kE
    go_wp2
    (try simp only [Exit.inBlock, Exit.then])
    refine bodyPost_ret (results_ipr_tmp rfl _ _ (B + 1) 0 (fun _ => 0) rfl HRE.out) rfl ?_
    have HE : mkE V x n = 40 := by
      unfold mkE
      rw [HVL.out, if_pos rfl]
    refine ⟨?_, HFE.out⟩
    unfold mkV mkX
    rw [HE]
    rfl
  | true =>
    by_cases h0 : n < 0
    · have q0 : decide (n < 0) = true := by simp [h0]
      go_wp2_with (first | (refine wpList_store_ipr (.tmp 4) _ rfl rfl (B + 1) 0 (fun _ => 0) 0 (fun _ => 0) rfl rfl HR1.out rfl ?_))
      intro wE hRE kE
      have HRE : Hid (IprAt wE (B + 1) 0 (fun _ => 0)) := hRE
      have HFE : Hid (Below w.heap.size w wE) := HB1.out.trans (kE.below (fun q e => by have e' : q = B + 1 := e; have := HB.out; omega) HB1.out.size)
      clear hRE kE
      go_wp2
      (try simp only [Exit.inBlock, Exit.then])
      refine bodyPost_ret (results_ipr_tmp rfl _ _ (B + 1) 0 (fun _ => 0) rfl HRE.out) rfl ?_
      have HE : mkE V x n = 45 := by
        unfold mkE
        rw [HVL.out, if_neg (by simp), if_pos (.inl h0)]
      refine ⟨?_, HFE.out⟩
      unfold mkV mkX
      rw [HE]
      rfl
    · have q0 : decide (n < 0) = false := by simp [h0]
      have QB : Hid _ := abits_any V x w1
      obtain ⟨bt, hbt⟩ : ∃ bt, bt = bitV V := ⟨_, rfl⟩
      rw [← hbt] at QB
      have HBT : Hid (bitV V = bt) := hbt.symm
      clear hbt
      go_upto_region 3 with fail
      go_wp2_with (first | (refine wpList_load_ipr (.tmp 2) rfl B V x rfl HBX1.out rfl ?_))
      refine Calls.mono QB.out ?_
      rintro e w2 ⟨rfl, hb2⟩
      have HBX2 : Hid (IprAt w2 B V x) := HBX1.out.below hb2
      have HR2 : Hid (IprAt w2 (B + 1) 0 (fun _ => 0)) := HR1.out.below hb2
      have HB2 : Hid (Below w.heap.size w w2) := bthen HB1.out hb2
      clear HBX1 HR1 HB1 QB hb2
      by_cases h1 : (bt : Int) < n
      · have q1 : decide (n > (bt : Int)) = true := by simp [h1]
        have q2 : (bt : Int) < n := h1
        go_wp2_with (first | (refine wpList_store_ipr (.tmp 4) _ rfl rfl (B + 1) 0 (fun _ => 0) 0 (fun _ => 0) rfl rfl HR2.out rfl ?_))
        intro wE hRE kE
        have HRE : Hid (IprAt wE (B + 1) 0 (fun _ => 0)) := hRE
        have HFE : Hid (Below w.heap.size w wE) := HB2.out.trans (kE.below (fun q e => by have e' : q = B + 1 := e; have := HB.out; omega) HB2.out.size)
        clear hRE kE
        go_wp2
        (try simp only [Exit.inBlock, Exit.then])
        refine bodyPost_ret (results_ipr_tmp rfl _ _ (B + 1) 0 (fun _ => 0) rfl HRE.out) rfl ?_
        have HE : mkE V x n = 45 := by
          unfold mkE
          rw [HVL.out, HBT.out, if_neg (by simp), if_pos (.inr h1)]
        refine ⟨?_, HFE.out⟩
        unfold mkV mkX
        rw [HE]
        rfl
      · have q1 : decide (n > (bt : Int)) = false := by simp; omega
        have q2 : ¬ (bt : Int) < n := h1
        obtain ⟨m, rfl⟩ : ∃ m : Nat, n = (m : Int) := ⟨n.toNat, by omega⟩
        have hm : m ≤ 128 := by have : bt ≤ 128 := by rw [← HBT.out]; unfold bitV; split <;> omega
                                omega
        have HE : Hid (mkE V x (m : Int) = 0) := by
          show mkE V x (m : Int) = 0
          unfold mkE
          rw [HVL.out, HBT.out, if_neg (by simp), if_neg (by omega)]
        have QH : Hid (∀ A, Calls Tryz.prog 20 #[.agg (arCells x), .int .i64 (m : Int)] A fun e w' => e = .returned (.agg (arCells (hdA x m))) ∧ Below A.heap.size A w') := fun A => head_any x m A hm HX.out
        go_upto_region 5 with fail
        clear q0 q1 q2 h0 h1 HX
        refine MixH.start (fun A => IprAt A B V x ∧ Below w.heap.size w A) (by kernel_rfl) ?_
        obtain ⟨wA, hwA⟩ : ∃ wA, wA = w2.drew := ⟨_, rfl⟩
        have hS : IprAt wA B V x ∧ Below w.heap.size w wA := by rw [hwA]; exact ⟨HBX2.out.below (Below.refl _ _).drew, HB2.out.drew⟩
        have HRA : Hid (IprAt wA (B + 1) 0 (fun _ => 0)) := by rw [hwA]; exact HR2.out.below (Below.refl _ _).drew
        rw [← hwA]
        clear hwA
        refine MixH.takes [true, false, true, false, true] 6 (by kernel_rfl) (by kernel_rfl) (by decide) (by kernel_rfl) hS (fun K hK => ?_)
        simp only [Mix.pick]
        repeat (go_big_quiet_step (fail))
        refine wpQuiet_nil (hK _ ?_)
        clear hK K
        refine MixH.take 5 1 _ (.int .i64 V) rfl (by kernel_rfl) (by kernel_rfl) (by kernel_rfl) (by kernel_rfl) (yields_int (.tmp 19) rfl ⟨B, 0, none⟩ (.int .i64 V) rfl rfl (fun A hA => hA.1.cell 0)) hS (fun a' ha => ?_)
        simp only [Act.put, List.setIfInBounds_toArray, List.set_cons_succ, List.set_cons_zero] at ha
        subst ha
        refine MixH.take 4 3 _ (.agg (arCells x)) rfl (by kernel_rfl) (by kernel_rfl) (by kernel_rfl) (by kernel_rfl) (yields_ar (.tmp 21) rfl B 1 x rfl rfl (fun A hA => hA.1.ar)) hS (fun a' ha => ?_)
        simp only [Act.put, List.setIfInBounds_toArray, List.set_cons_succ, List.set_cons_zero] at ha
        subst ha
        refine MixH.one [false, false, false, false, false, true] 3 5 _ rfl rfl (by kernel_rfl) (by kernel_rfl) (fun K hK => ?_)
        simp only [Mix.pick]
        go_wp2_with fail
        refine Calls.mono (QH.out wA) ?_
        rintro ex w3 ⟨rfl, hb3⟩
        have HR3 : Hid (IprAt w3 (B + 1) 0 (fun _ => 0)) := HRA.out.below hb3
        replace hS : IprAt w3 B V x ∧ Below w.heap.size w w3 := ⟨hS.1.below hb3, bthen hS.2 hb3⟩
        clear hb3
        go_wp2
        refine ⟨rfl, hK _ _ hS ?_⟩
        clear hK K
        refine MixH.take 2 6 _ (.agg (ipCells V (hdA x m))) rfl (by kernel_rfl) (by kernel_rfl) (by kernel_rfl) (by kernel_rfl) (yields_buildip (.tmp 20) (.tmp 24) rfl V (hdA x m) rfl rfl rfl) hS (fun a' ha => ?_)
        simp only [Act.put, List.setIfInBounds_toArray, List.set_cons_succ, List.set_cons_zero] at ha
        subst ha
        refine MixH.one [false, false, false, false, false, false, false, true] 1 7 _ rfl rfl (by kernel_rfl) (by kernel_rfl) (fun K hK => ?_)
        simp only [Mix.pick]
        refine wpList_store_ipr (.tmp 4) (.tmp 25) rfl rfl (B + 1) 0 (fun _ => 0) V (hdA x m) rfl rfl HR3.out rfl ?_
        intro wE hRE kE
        have HEND : Hid (IprAt wE (B + 1) V (hdA x m) ∧ Below w.heap.size w wE) := ⟨hRE, hS.2.trans (kE.below (fun q e => by have e' : q = B + 1 := e; have := HB.out; omega) hS.2.size)⟩
        replace hS : IprAt wE B V x ∧ Below w.heap.size w wE := ⟨hS.1.ch kE (by omega), HEND.out.2⟩
        clear hRE kE
        go_wp2
        refine ⟨rfl, hK _ _ hS ?_⟩
        clear hK K
        refine MixH.takes [false, false, false, false, false, false, false, false, true] 0 (by kernel_rfl) (by kernel_rfl) (by decide) (by kernel_rfl) hS (fun K hK => ?_)
        simp only [Mix.pick]
        repeat (go_big_quiet_step (fail))
        refine wpQuiet_nil (hK _ ?_)
        clear hK K
        refine MixH.done (by kernel_rfl) ?_
        go_wp2
        (try simp only [Exit.inBlock, Exit.then])
        refine bodyPost_ret (results_ipr_tmp rfl _ _ (B + 1) V (hdA x m) rfl HEND.out.1) rfl ?_
        refine ⟨?_, HEND.out.2⟩
        unfold mkV mkX
        rw [HE.out]
        rfl
set_option maxHeartbeats 1600000 in
set_option maxRecDepth 100000 in
theorem vpref_any (p : PV) (w : World) (hx : ∀ i, i < 16 → p.x i < 256) : Calls Tryz.prog 53 #[.agg (pfC p)] w fun e w' => e = .returned (.int .i64 (vpE p : Nat)) ∧ Below w.heap.size w w' := by
  have hb := pfx_new w p
  have bel : Below w.heap.size w (w.alloc (.cells (pfC p) 38)) := (Below.refl _ _).alloc (Nat.le_refl _) _
  obtain ⟨C, hC⟩ : ∃ C, C = pfC p := ⟨_, rfl⟩
  obtain ⟨W, hW⟩ : ∃ W, W = w.alloc (.cells (pfC p) 38) := ⟨_, rfl⟩
  rw [← hW] at hb bel
  obtain ⟨B, hB⟩ : ∃ B, B = w.heap.size := ⟨_, rfl⟩
  rw [← hB] at hb
  have HP : Hid (PfxAt W B p) := hb
  rw [← hC] at hW ⊢
  have HB : Hid (w.heap.size = B) := hB.symm
  have HBL : Hid (Below w.heap.size w W) := bel
  have HW : Hid (w.alloc (.cells C 38) = W) := hW.symm
  have cn := hb.cn
  have QM : Hid _ := mask_any p.V p.x p.n W hx
  obtain ⟨er, her⟩ : ∃ er, er = mkE p.V p.x p.n := ⟨_, rfl⟩
  obtain ⟨mv, hmv⟩ : ∃ mv, mv = mkV p.V p.x p.n := ⟨_, rfl⟩
  obtain ⟨mx, hmx⟩ : ∃ mx, mx = mkX p.V p.x p.n := ⟨_, rfl⟩
  rw [← her, ← hmv, ← hmx] at QM
  have HE : Hid (mkE p.V p.x p.n = er ∧ mkX p.V p.x p.n = mx) := ⟨her.symm, hmx.symm⟩
  clear hb hW hB hC hx her hmv hmx bel
  go_enter Tryz.func53, Tryz.ntmps53
  go_upto_region 1 with fail
  rw [HB.out, HW.out]
  go_wp2_with (first | (refine wpList_mid_ipr (.tmp 6) rfl B 0 p.V p.x rfl HP.out.ip rfl ?_))
  refine Calls.mono QM.out ?_
  rintro e w1 ⟨rfl, hb1⟩
  have HP1 : Hid (PfxAt w1 B p) := HP.out.below hb1
  have HB1 : Hid (Below w.heap.size w w1) := bthen HBL.out hb1
  have hz := ipr_new w1 0 (fun _ => 0)
  have bz : Below w1.heap.size w1 (w1.alloc (.cells (ipCells 0 (fun _ => 0)) 28)) := (Below.refl _ _).alloc (Nat.le_refl _) _
  have HZ : Hid (IprAt (w1.alloc (.cells (ipCells 0 (fun _ => 0)) 28)) w1.heap.size 0 (fun _ => 0)) := hz
  have HBz : Hid (Below w1.heap.size w1 (w1.alloc (.cells (ipCells 0 (fun _ => 0)) 28))) := bz
  clear HP HBL QM hb1 HW hz bz cn
  go_wp2_with (first | (refine wpList_alloc_ipr rfl rfl ?_) | (refine wpList_store_ipr (.tmp 3) (.tmp 11) rfl rfl w1.heap.size 0 (fun _ => 0) mv mx rfl rfl HZ.out rfl ?_))
  intro w2 hR2 k2
  have hb12 : Below w1.heap.size w1 w2 := HBz.out.trans (k2.below (fun q e => by have e' : q = w1.heap.size := e; omega) HBz.out.size)
  have HR2 : Hid (IprAt w2 w1.heap.size mv mx) := hR2
  have HP2 : Hid (PfxAt w2 B p) := HP1.out.below hb12
  have HB2 : Hid (Below w.heap.size w w2) := bthen HB1.out hb12
  clear hR2 k2 hb12 HZ HBz HP1 HB1
  by_cases h0 : er = 0
  · subst h0
    by_cases hs : same16 mx p.x = true
    · have HS : Hid ((!(same16 mx p.x)) = false) := by show _ = _; rw [hs]; rfl
      go_upto_region 4 with fail
      go_wp2_with (first | (refine wpList_load_ar (.tmp 16) rfl w1.heap.size 1 mx rfl HR2.out.ar rfl ?_) | (refine wpList_load_ar (.tmp 19) rfl B 1 p.x rfl HP2.out.ar rfl ?_) | (refine wpList_neq_ar (.tmp 17) (.tmp 20) rfl mx p.x rfl rfl false HS.out rfl ?_))
      go_ret
      refine ⟨?_, HB2.out⟩
      unfold vpE
      rw [HE.out.1, if_pos rfl, hdX HE.out.1, HE.out.2, if_pos hs]
      rfl
    · have HS : Hid ((!(same16 mx p.x)) = true) := by show _ = _; simpa using hs
      go_upto_region 4 with fail
      go_wp2_with (first | (refine wpList_load_ar (.tmp 16) rfl w1.heap.size 1 mx rfl HR2.out.ar rfl ?_) | (refine wpList_load_ar (.tmp 19) rfl B 1 p.x rfl HP2.out.ar rfl ?_) | (refine wpList_neq_ar (.tmp 17) (.tmp 20) rfl mx p.x rfl rfl true HS.out rfl ?_))
      go_ret
      refine ⟨?_, HB2.out⟩
      unfold vpE
      rw [HE.out.1, if_pos rfl, hdX HE.out.1, HE.out.2, if_neg hs]
      rfl
  · have q : ((er : Int) != 0) = true := by simp; omega
    go_wp2
    go_ret
    refine ⟨?_, HB2.out⟩
    unfold vpE
    rw [HE.out.1, if_neg h0]
    rfl
end Go.Proofs.YteldiggaooeeeaaGreatDoor
