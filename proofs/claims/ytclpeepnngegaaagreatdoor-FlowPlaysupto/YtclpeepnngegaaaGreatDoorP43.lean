/-
  FSk: lemmas of the proof of FlowPlays, and walks through the functions that it calls.
-/
import Derived.Test.YtclpeepnngegaaaGreatDoorP00
import Derived.Test.YtclpeepnngegaaaGreatDoorP42
namespace Go.Proofs.YtclpeepnngegaaaGreatDoor
open Go.RowKit Go.Maps
theorem yields_tblp {ops : Array Oper} {o : Oper} {a : Act} {S : World → Prop} (x : Operand) (ho : o.op = .load 33 x) (p : Addr) (u : Value) (hx : a.eval x = .pointer (some p)) (hw : Region.wanted o (yielded ops a.tmps) = true) (hS : ∀ w, S w → w.cell? p = some u) : YieldsIf Tryz.prog ops S o u a := by
 refine .inl ⟨hw, fun w hb => ?_⟩
 have hc := hS w hb
 have hu := Tryz.underlying33
 obtain ⟨dst, op, type, pos, after, guard⟩ := o
 simp only at ho
 subst ho
 simp only [execOp, Sem.run_bind, Sem.run_pure]
 rw [hx]
 go_simp
theorem StD.close2 {W : World} {t M N : Nat} {c : CF} {a a' : Option Addr} {n n' k k' : Nat} {y y' : TU} {E E' : List FV} {L L' : List FN} {BK : Nat} {b : BV} {r : Nat} {s : SV} {w w' : World} (_h : StP W t M N c a n k y E L w) (hB : BkP W BK b r w) (hd : ∀ q, KPB t M N a n k E q → ¬ BB BK b q)
    (kk : Ch (TB t M N E) w w') (h' : StP W t M N c a' n' k' y' E' L' w') (hq : ∀ q, KPB t M N a' n' k' E' q → KPB t M N a n k E q ∨ w.heap.size ≤ q) (h1 : s.kd ≠ 1) : StD W t M N c a n k E BK b r s w (.returned (.tuple #[.agg (prC ⟨some ⟨t, 0, none⟩, c, a', n', k', y'⟩), .bool true])) w' := by
  refine ⟨a', n', k', y', E', L', b, rfl, h', (hB.ch kk (fun q h2 h3 => hd q (.inl h3) h2)).mono (by omega), kk.mono (fun _ _ q => .inl q), hq, fun q hq => .inl hq, fun q h2 h3 => ?_, fun h2 => absurd h2 h1⟩
  rcases hq q h2 with h4 | h4
  · exact hd q h4 h3
  · have := hB.bk.lt q h3
    omega
set_option maxHeartbeats 6400000 in
set_option maxRecDepth 100000 in
theorem step_tick (W w : World) (t M N : Nat) (c : CF) (a : Option Addr) (n k : Nat) (ly : TU) (E : List FV) (L : List FN) (BK : Nat) (b : BV) (r : Nat) (s : SV) (h : StP W t M N c a n k ly E L w) (hB : BkP W BK b r w) (hd : ∀ q, KPB t M N a n k E q → ¬ BB BK b q) (g : Gl W) (hs : s.Wf) (hk : s.kd = 4) : Calls Tryz.prog 6 #[.agg (prC (⟨some ⟨t, 0, none⟩, c, a, n, k, ly⟩ : XV)), .agg (stC s), .pointer (some ⟨BK, 0, none⟩)] w (StD W t M N c a n k E BK b r s w) := by
 have HG : Hid (StP W t M N c a n k ly E L w ∧ BkP W BK b r w ∧ (∀ q, KPB t M N a n k E q → ¬ BB BK b q) ∧ Gl W ∧ s.Wf) := ⟨h, hB, hd, g, hs⟩
 clear h hB hd g hs
 obtain ⟨Wb, B, HSZX, HOX, HLX, HWX, hb⟩ := zBx w (prC (⟨some ⟨t, 0, none⟩, c, a, n, k, ly⟩ : XV)) 40
 have HBX : Hid (PrvAt Wb B (⟨some ⟨t, 0, none⟩, c, a, n, k, ly⟩ : XV)) := hb
 obtain ⟨CX, hC⟩ : ∃ C, C = prC (⟨some ⟨t, 0, none⟩, c, a, n, k, ly⟩ : XV) := ⟨_, rfl⟩
 rw [← hC] at HWX ⊢
 clear hb hC
 obtain ⟨Wd, D, HSZZ, HOZ, HLZ, HWZ, hb⟩ := zBx Wb (stC s) 47
 have HBZ : Hid (StpAt Wd D s) := hb
 obtain ⟨CZ, hC⟩ : ∃ C, C = stC s := ⟨_, rfl⟩
 rw [← hC] at HWZ ⊢
 clear hb hC
 obtain ⟨Y, O, -, HOY, HLY, HEY, hb⟩ := zBx Wd (prC pz0) 40
 have HNY : Hid (PrvAt Y O pz0) := hb
 clear hb
 have HNUM : Hid (w.heap.size = B ∧ B < D ∧ D < O ∧ W.heap.size ≤ w.heap.size) := by
  have h1 := HOX.out; have h2 := HSZX.out; have h3 := HOZ.out; have h4 := HSZZ.out; have h5 := HOY.out; have h6 := HG.out.1.ft.bel.size
  exact ⟨by omega, by omega, by omega, h6⟩
 have HBW : Hid (Below w.heap.size w Y) := bthen (bthen HLX.out HLZ.out) HLY.out
 have H0 : Hid (PrvAt Y B (⟨some ⟨t, 0, none⟩, c, a, n, k, ly⟩ : XV) ∧ StpAt Y D s ∧ PrvAt Y O pz0 ∧ FT W t M N c E Y) := ⟨(HBX.out.below HLZ.out).below HLY.out, HBZ.out.below HLY.out, HNY.out, HG.out.1.ft.below HBW.out⟩
 have HKD : Hid (s.kd = 4) := hk
 have c0 : Y.cell? ⟨B, 0, none⟩ = some (.pointer (some ⟨t, 0, none⟩)) := H0.out.1.cell 0
 have d0 : Y.cell? ⟨D, 0, none⟩ = some (.int .i64 4) := by have h1 := H0.out.2.1.cell 0; rw [← hk]; exact h1
 have q11 : ((4 : Int) == 1) = false := rfl
 have q12 : ((4 : Int) == 2) = false := rfl
 have q13 : ((4 : Int) == 3) = false := rfl
 have q14 : ((4 : Int) == 4) = true := rfl
 have q15 : ((4 : Int) == 5) = false := rfl
 clear hk
 go_enter Tryz.func6, Tryz.ntmps6
 obtain ⟨ys, hys⟩ : ∃ v, Y.heap.size = v := ⟨_, rfl⟩
 have HYS : Hid (O < ys ∧ w.heap.size ≤ ys) := by have h1 := HNY.out.lt; have h2 := HNUM.out; exact ⟨by omega, by omega⟩
 have HI0 : Hid (PrvAt Y B (⟨some ⟨t, 0, none⟩, c, a, n, k, ly⟩ : XV) ∧ PrvAt Y O pz0 ∧ StpAt Y D s ∧ StP W t M N c a n k ly E L Y ∧ Ch (TB t M N E) w Y ∧ (∀ q, TB t M N E q → TB t M N E q) ∧ ys ≤ Y.heap.size ∧ ∀ q, KPB t M N a n k E q → KPB t M N a n k E q ∨ ys ≤ q) := ⟨H0.out.1, H0.out.2.2.1, H0.out.2.1, HG.out.1.below HBW.out, Ch.ofBelow HBW.out, fun _ h => h, by omega, fun q hq => .inl hq⟩
 have d40 : Y.cell? ⟨D, 40, none⟩ = some (.int .i64 s.n) := H0.out.2.1.cell 40
 clear hys c0
 go_upto_region 19 with (first | (rw [HOX.out, HWX.out]) | (rw [HOZ.out, HWZ.out]) | (refine wpList_alloc_prv rfl rfl ?_; rw [HEY.out, HOY.out]))
 clear H0
 go_wp2_with fail
 go_loopw [19, 20, 21, 22] (fun ix _ _ _ wr => ∃ i : Nat, ix = .int .i64 (i : Nat) ∧ i ≤ 40 ∧ ∃ a' n' m' E' L', Hid (PrvAt wr B (⟨some ⟨t, 0, none⟩, c, a', n', m', ly⟩ : XV) ∧ PrvAt wr O pz0 ∧ StpAt wr D s ∧ StP W t M N c a' n' m' ly E' L' wr ∧ Ch (TB t M N E) w wr ∧ (∀ q, TB t M N E' q → TB t M N E q) ∧ ys ≤ wr.heap.size ∧ ∀ q, KPB t M N a' n' m' E' q → KPB t M N a n k E q ∨ ys ≤ q)) (fun ix _ _ _ _ => 40 - (intOf ix).toNat)
 case atStart => exact ⟨0, rfl, by omega, a, n, k, E, L, HI0.out⟩
 case round =>
  clear d0 d40 HI0
  obtain ⟨i, rfl, hi, a', n', m', E', L', HI⟩ := hrel
  have d40 : wr.cell? ⟨D, 40, none⟩ = some (.int .i64 s.n) := HI.out.2.2.1.cell 40
  obtain ⟨nn, hn⟩ : ∃ n, s.n = n := ⟨_, rfl⟩
  rw [hn] at d40
  clear hn
  by_cases ha : (i : Int) < nn
  · have p1 : decide ((i : Int) < nn) = true := decide_eq_true ha
    by_cases hb : i < 40
    · have p2 : decide ((i : Int) < 40) = true := decide_eq_true (by omega)
      have p3 : decide (i < 40) = true := decide_eq_true hb
      have wk : IntKind.i64.wrap ((i : Int) + 1) = (i : Int) + 1 := i64_k _ (by omega) (by omega)
      have HIB : Hid (i < 40) := hb
      have QT : Hid _ := HI.out.2.2.2.1.ft.tick
      have c0 : wr.cell? ⟨B, 0, none⟩ = some (.pointer (some ⟨t, 0, none⟩)) := HI.out.1.cell 0
      clear ha hb hi
      go_upto_region 22 with fail
      clear p1 p2 p3 d40
      go_wp2_with fail
      refine Calls.mono QT.out ?_
      rintro e2 w2 ⟨rfl, hF, k2⟩
      obtain ⟨hJ, hE⟩ := HI.out.2.2.2.1.jr.tick HI.out.2.2.2.1.ft.le
      have hta := HI.out.2.2.2.1.ft.ta
      have H2 : Hid (PrvAt w2 B (⟨some ⟨t, 0, none⟩, c, a', n', m', ly⟩ : XV) ∧ PrvAt w2 O pz0 ∧ StpAt w2 D s ∧ FT W t M N c (E'.filterMap tk1) w2 ∧ FL w2 W.heap.size (.slice a' n' m') L' ∧ Ch (TB t M N E) w w2) := by
       refine ⟨HI.out.1.tb hta k2, HI.out.2.1.tb hta k2, HI.out.2.2.1.tb hta k2, hF, HI.out.2.2.2.1.fl.ch k2 (fun q hq => HI.out.2.2.2.1.sp q hq), HI.out.2.2.2.2.1.trans k2 (fun q hq h => ?_)⟩
       exact HI.out.2.2.2.2.2.1 q h
      have HYW : Hid (ys ≤ w2.heap.size) := Nat.le_trans HI.out.2.2.2.2.2.2.1 k2.size
      have HJ : Hid (JR c (E'.filterMap tk1) (L'.filterMap tkR)) := hJ
      have HLN := HI.out.2.2.2.1.ln
      have HRF := HI.out.2.2.2.1.rf
      have QR := tickR_any W.heap.size c a' n' m' L' w2 H2.out.2.2.2.2.1 HLN.1 HLN.2 HRF.2.2.2
      rw [hE] at QR
      obtain ⟨ke, hke⟩ : ∃ v : Int, ((endN E' : Nat) : Int) = v := ⟨_, rfl⟩
      rw [hke] at QR
      rw [hke]
      have QR : Hid _ := QR
      have qne : (ke != ke) = false := by simp
      clear hF k2 hJ hE hta HLN HRF QT hke c0
      go_upto_region 23 with fail
      go_wp2_with (refine wpList_mid_rvt (.tmp 121) rfl B 1 c a' n' m' rfl H2.out.1.w rfl ?_)
      refine Calls.mono QR.out ?_
      rintro e3 w3 ⟨a2, n2, m2, rfl, l3, hl3, b3⟩
      have H3 : Hid (PrvAt w3 B (⟨some ⟨t, 0, none⟩, c, a', n', m', ly⟩ : XV) ∧ PrvAt w3 O pz0 ∧ StpAt w3 D s ∧ FT W t M N c (E'.filterMap tk1) w3 ∧ FL w3 w2.heap.size (.slice a2 n2 m2) (L'.filterMap tkR) ∧ Ch (TB t M N E) w w3) := ⟨H2.out.1.below b3, H2.out.2.1.below b3, H2.out.2.2.1.below b3, H2.out.2.2.2.1.below b3, l3, H2.out.2.2.2.2.2.trans (Ch.ofBelow (S := fun _ => False) b3) (fun _ _ q => q.elim)⟩
      have HW2 : Hid (O < w2.heap.size ∧ w2.heap.size ≤ w3.heap.size ∧ ∀ q, TB t M N (E'.filterMap tk1) q → q < w2.heap.size) := ⟨H2.out.2.1.lt, b3.size, H2.out.2.2.2.1.ta.tlt⟩
      clear l3 hl3 b3 QR
      obtain ⟨Y21, O21, -, HOT, HLT, HET, hb⟩ := zBx w3 (rvC cz none 0 0) 36
      have HNT : Hid (RvtAt Y21 O21 cz none 0 0) := hb
      clear hb
      go_upto_region 24 with (first | (refine wpList_alloc_rvt rfl rfl ?_; rw [HET.out, HOT.out]) | (refine wpList_store_rvt (.tmp 21) (.tmp 124) rfl rfl O21 cz none 0 0 c a2 n2 m2 rfl rfl HNT.out rfl ?_; intro w4 h4 k4))
      have HN21 : Hid (w3.heap.size = O21) := HOT.out
      have H4 : Hid (PrvAt w4 B (⟨some ⟨t, 0, none⟩, c, a', n', m', ly⟩ : XV) ∧ PrvAt w4 O pz0 ∧ StpAt w4 D s ∧ FT W t M N c (E'.filterMap tk1) w4 ∧ FL w4 w2.heap.size (.slice a2 n2 m2) (L'.filterMap tkR) ∧ Ch (TB t M N E) w w4 ∧ RvtAt w4 O21 c a2 n2 m2) := by
       have n1 := HNUM.out; have n2' := HYS.out; have n3 := HW2.out; have n4 := HN21.out
       have hf := H3.out.2.2.2.1.below HLT.out
       have hl := H3.out.2.2.2.2.1
       exact ⟨(H3.out.1.below HLT.out).ch k4 (by omega), (H3.out.2.1.below HLT.out).ch k4 (by omega), (H3.out.2.2.1.below HLT.out).ch k4 (by omega), hf.chO k4 (by omega) (fun q hq e => hf.ta.nb HNT.out (by decide) (by decide) (by subst e; exact hq)), (hl.below HLT.out).ch k4 (fun q hq e => by have e' : q = O21 := e; have h5 := fl_lt hl hq; omega), (H3.out.2.2.2.2.2.trans (Ch.ofBelow (S := fun _ => False) HLT.out) (fun _ _ q => q.elim)).trans k4 (fun q hq e => by have e' : q = O21 := e; omega), h4⟩
      have HSZ4 : Hid (ys ≤ w4.heap.size) := by have h6 := HLT.out.size; have h7 := k4.size; have h8 := HYW.out; have h9 := HW2.out; show _ ≤ _; omega
      clear h4 k4 H3
      go_upto_region 25 with (first | (refine wpList_load_rvt (.tmp 21) rfl O21 c a2 n2 m2 rfl H4.out.2.2.2.2.2.2 rfl ?_) | (refine wpList_store_prw (.tmp 127) (.tmp 126) rfl rfl B (⟨some ⟨t, 0, none⟩, c, a', n', m', ly⟩ : XV) a2 n2 m2 rfl rfl H4.out.1 rfl ?_; intro w5 h5 k5))
      have H5 : Hid (PrvAt w5 B (⟨some ⟨t, 0, none⟩, c, a2, n2, m2, ly⟩ : XV) ∧ PrvAt w5 O pz0 ∧ StpAt w5 D s ∧ StP W t M N c a2 n2 m2 ly (E'.filterMap tk1) (L'.filterMap tkR) w5 ∧ Ch (TB t M N E) w w5 ∧ (∀ q, TB t M N (E'.filterMap tk1) q → TB t M N E q) ∧ ys ≤ w5.heap.size ∧ ∀ q, KPB t M N a2 n2 m2 (E'.filterMap tk1) q → KPB t M N a n k E q ∨ ys ≤ q) := by
       have n1 := HNUM.out; have n2' := HYS.out; have n3 := HW2.out
       have hf := H4.out.2.2.2.1
       have hl := H4.out.2.2.2.2.1
       have hO : ys ≤ w2.heap.size := HYW.out
       have HSZ5 : ys ≤ w5.heap.size := by have h6 := HLT.out.size; have h7 := k5.size; have h8 := HSZ4.out; omega
       refine ⟨h5, H4.out.2.1.ch k5 (by omega), H4.out.2.2.1.ch k5 (by omega), ⟨hf.chO k5 (by omega) (fun q hq e => hf.ta.nb H4.out.1 (by decide) (by decide) (by subst e; exact hq)), HJ.out, (hl.ch k5 (fun q hq e => by have e' : q = B := e; have h5 := fl_base hl hq; omega)).mono (by omega), HG.out.1.ls, fun q hq h6 => by have h7 := fl_base hl hq; have h8 := n3.2.2 q h6; omega⟩, H4.out.2.2.2.2.2.1.trans k5 (fun q hq e => by have e' : q = B := e; omega), fun q hq => HI.out.2.2.2.2.2.1 q (tick_tb q hq), HSZ5, ?_⟩
       rintro q (hq | hq)
       · exact HI.out.2.2.2.2.2.2.2 q (.inl (tick_tb q hq))
       · have h7 := fl_base hl hq
         exact .inr (by omega)
      clear h5 k5 H4
      go_wp2_with fail
      go_roundw
      case rel => exact ⟨i + 1, by go_num, by have := HIB.out; omega, a2, n2, m2, _, _, H5.out⟩
      case measure => have := HIB.out; simp [intOf]; omega
    · have p2 : decide ((i : Int) < 40) = false := decide_eq_false (by omega)
      have p3 : decide (i < 40) = false := decide_eq_false hb
      clear ha hb hi
      go_wp2_with (first | (refine wpList_load_prv (.tmp 3) rfl B (⟨some ⟨t, 0, none⟩, c, a', n', m', ly⟩ : XV) rfl HI.out.1 rfl ?_) | (refine wpList_store_prv (.tmp 6) (.tmp 157) rfl rfl O pz0 (⟨some ⟨t, 0, none⟩, c, a', n', m', ly⟩ : XV) rfl rfl HI.out.2.1 rfl ?_))
      intro w9 h9 k9
      go_wp2_with fail
      refine bodyPost_ret (results_prv2 rfl _ _ O _ rfl h9) rfl ?_
      have n1 := HNUM.out; have n2 := HYS.out
      refine StD.close2 HG.out.1 HG.out.2.1 HG.out.2.2.1 (HI.out.2.2.2.2.1.trans k9 (fun q hq e => by have e' : q = O := e; omega)) (HI.out.2.2.2.1.ch k9 (fun q e => by have e' : q = O := e; omega) (fun q hq e => ?_)) (fun q hq => (HI.out.2.2.2.2.2.2.2 q hq).imp id (fun h => by omega)) (by have h1 := HKD.out; omega)
      have e' : q = O := e
      rcases HI.out.2.2.2.2.2.2.2 q hq with h1 | h1
      · have h2 := HG.out.1.lt q h1
        omega
      · omega
  · have p1 : decide ((i : Int) < nn) = false := decide_eq_false ha
    clear ha hi
    go_wp2_with (first | (refine wpList_load_prv (.tmp 3) rfl B (⟨some ⟨t, 0, none⟩, c, a', n', m', ly⟩ : XV) rfl HI.out.1 rfl ?_) | (refine wpList_store_prv (.tmp 6) (.tmp 157) rfl rfl O pz0 (⟨some ⟨t, 0, none⟩, c, a', n', m', ly⟩ : XV) rfl rfl HI.out.2.1 rfl ?_))
    intro w9 h9 k9
    go_wp2_with fail
    refine bodyPost_ret (results_prv2 rfl _ _ O _ rfl h9) rfl ?_
    have n1 := HNUM.out; have n2 := HYS.out
    refine StD.close2 HG.out.1 HG.out.2.1 HG.out.2.2.1 (HI.out.2.2.2.2.1.trans k9 (fun q hq e => by have e' : q = O := e; omega)) (HI.out.2.2.2.1.ch k9 (fun q e => by have e' : q = O := e; omega) (fun q hq e => ?_)) (fun q hq => (HI.out.2.2.2.2.2.2.2 q hq).imp id (fun h => by omega)) (by have h1 := HKD.out; omega)
    have e' : q = O := e
    rcases HI.out.2.2.2.2.2.2.2 q hq with h1 | h1
    · have h2 := HG.out.1.lt q h1
      omega
    · omega
set_option maxHeartbeats 1600000 in
set_option maxRecDepth 100000 in
theorem step_no (W w : World) (t M N : Nat) (c : CF) (a : Option Addr) (n k : Nat) (ly : TU) (E : List FV) (L : List FN) (BK : Nat) (b : BV) (r : Nat) (s : SV) (h : StP W t M N c a n k ly E L w) (hB : BkP W BK b r w) (hd : ∀ q, KPB t M N a n k E q → ¬ BB BK b q) (g : Gl W) (hs : s.Wf) (hk : s.kd ≠ 1 ∧ s.kd ≠ 2 ∧ s.kd ≠ 3 ∧ s.kd ≠ 4 ∧ s.kd ≠ 5) : Calls Tryz.prog 6 #[.agg (prC (⟨some ⟨t, 0, none⟩, c, a, n, k, ly⟩ : XV)), .agg (stC s), .pointer (some ⟨BK, 0, none⟩)] w (StD W t M N c a n k E BK b r s w) := by
 have HG : Hid (StP W t M N c a n k ly E L w ∧ BkP W BK b r w ∧ (∀ q, KPB t M N a n k E q → ¬ BB BK b q) ∧ Gl W ∧ s.Wf) := ⟨h, hB, hd, g, hs⟩
 clear h hB hd g hs
 obtain ⟨Wb, B, HSZX, HOX, HLX, HWX, hb⟩ := zBx w (prC (⟨some ⟨t, 0, none⟩, c, a, n, k, ly⟩ : XV)) 40
 have HBX : Hid (PrvAt Wb B (⟨some ⟨t, 0, none⟩, c, a, n, k, ly⟩ : XV)) := hb
 obtain ⟨CX, hC⟩ : ∃ C, C = prC (⟨some ⟨t, 0, none⟩, c, a, n, k, ly⟩ : XV) := ⟨_, rfl⟩
 rw [← hC] at HWX ⊢
 clear hb hC
 obtain ⟨Wd, D, HSZZ, HOZ, HLZ, HWZ, hb⟩ := zBx Wb (stC s) 47
 have HBZ : Hid (StpAt Wd D s) := hb
 obtain ⟨CZ, hC⟩ : ∃ C, C = stC s := ⟨_, rfl⟩
 rw [← hC] at HWZ ⊢
 clear hb hC
 obtain ⟨Y, O, -, HOY, HLY, HEY, hb⟩ := zBx Wd (prC pz0) 40
 have HNY : Hid (PrvAt Y O pz0) := hb
 clear hb
 have HNUM : Hid (w.heap.size = B ∧ B < D ∧ D < O ∧ W.heap.size ≤ w.heap.size) := by
  have h1 := HOX.out; have h2 := HSZX.out; have h3 := HOZ.out; have h4 := HSZZ.out; have h5 := HOY.out; have h6 := HG.out.1.ft.bel.size
  exact ⟨by omega, by omega, by omega, h6⟩
 have HBW : Hid (Below w.heap.size w Y) := bthen (bthen HLX.out HLZ.out) HLY.out
 have H0 : Hid (PrvAt Y B (⟨some ⟨t, 0, none⟩, c, a, n, k, ly⟩ : XV) ∧ StpAt Y D s ∧ PrvAt Y O pz0 ∧ FT W t M N c E Y) := ⟨(HBX.out.below HLZ.out).below HLY.out, HBZ.out.below HLY.out, HNY.out, HG.out.1.ft.below HBW.out⟩
 have HKD : Hid (s.kd ≠ 1) := hk.1
 obtain ⟨kd, hkd⟩ : ∃ v, s.kd = v := ⟨_, rfl⟩
 rw [hkd] at hk
 have d0 : Y.cell? ⟨D, 0, none⟩ = some (.int .i64 kd) := by have h1 := H0.out.2.1.cell 0; rw [← hkd]; exact h1
 have q11 : (kd == 1) = false := by simpa using hk.1
 have q12 : (kd == 2) = false := by simpa using hk.2.1
 have q13 : (kd == 3) = false := by simpa using hk.2.2.1
 have q14 : (kd == 4) = false := by simpa using hk.2.2.2.1
 have q15 : (kd == 5) = false := by simpa using hk.2.2.2.2
 clear hk hkd
 go_enter Tryz.func6, Tryz.ntmps6
 go_upto_region 32 with (first | (rw [HOX.out, HWX.out]) | (rw [HOZ.out, HWZ.out]) | (refine wpList_alloc_prv rfl rfl ?_; rw [HEY.out, HOY.out]))
 have HI : Hid (PrvAt Y B (⟨some ⟨t, 0, none⟩, c, a, n, k, ly⟩ : XV) ∧ PrvAt Y O pz0 ∧ True) := ⟨H0.out.1, H0.out.2.2.1, trivial⟩
 go_wp2_with (first | (refine wpList_load_prv (.tmp 3) rfl B (⟨some ⟨t, 0, none⟩, c, a, n, k, ly⟩ : XV) rfl HI.out.1 rfl ?_) | (refine wpList_store_prv (.tmp 6) (.tmp 157) rfl rfl O pz0 (⟨some ⟨t, 0, none⟩, c, a, n, k, ly⟩ : XV) rfl rfl HI.out.2.1 rfl ?_))
 intro w9 h9 k9
 go_wp2_with fail
 refine bodyPost_ret (results_prv2 rfl _ _ O _ rfl h9) rfl ?_
 have n1 := HNUM.out
 exact StD.close2 HG.out.1 HG.out.2.1 HG.out.2.2.1 ((Ch.ofBelow HBW.out).trans k9 (fun q hq e => by have e' : q = O := e; omega)) ((HG.out.1.below HBW.out).ch k9 (fun q e => by have e' : q = O := e; omega) (fun q hq e => by have e' : q = O := e; have h2 := HG.out.1.lt q hq; omega)) (fun q hq => .inl hq) HKD.out
set_option maxHeartbeats 6400000 in
set_option maxRecDepth 100000 in
theorem step_dump (W w : World) (t M N : Nat) (c : CF) (a : Option Addr) (n k : Nat) (ly : TU) (E : List FV) (L : List FN) (BK : Nat) (b : BV) (r : Nat) (s : SV) (h : StP W t M N c a n k ly E L w) (hB : BkP W BK b r w) (hd : ∀ q, KPB t M N a n k E q → ¬ BB BK b q) (g : Gl W) (hs : s.Wf) (hr : r ≤ 90000) (hk : s.kd = 5) : Calls Tryz.prog 6 #[.agg (prC (⟨some ⟨t, 0, none⟩, c, a, n, k, ly⟩ : XV)), .agg (stC s), .pointer (some ⟨BK, 0, none⟩)] w (StD W t M N c a n k E BK b r s w) := by
 have HRR : Hid (r ≤ 90000) := hr
 clear hr
 have HG : Hid (StP W t M N c a n k ly E L w ∧ BkP W BK b r w ∧ (∀ q, KPB t M N a n k E q → ¬ BB BK b q) ∧ Gl W ∧ s.Wf) := ⟨h, hB, hd, g, hs⟩
 clear h hB hd g hs
 obtain ⟨Wb, B, HSZX, HOX, HLX, HWX, hb⟩ := zBx w (prC (⟨some ⟨t, 0, none⟩, c, a, n, k, ly⟩ : XV)) 40
 have HBX : Hid (PrvAt Wb B (⟨some ⟨t, 0, none⟩, c, a, n, k, ly⟩ : XV)) := hb
 obtain ⟨CX, hC⟩ : ∃ C, C = prC (⟨some ⟨t, 0, none⟩, c, a, n, k, ly⟩ : XV) := ⟨_, rfl⟩
 rw [← hC] at HWX ⊢
 clear hb hC
 obtain ⟨Wd, D, HSZZ, HOZ, HLZ, HWZ, hb⟩ := zBx Wb (stC s) 47
 have HBZ : Hid (StpAt Wd D s) := hb
 obtain ⟨CZ, hC⟩ : ∃ C, C = stC s := ⟨_, rfl⟩
 rw [← hC] at HWZ ⊢
 clear hb hC
 obtain ⟨Y, O, -, HOY, HLY, HEY, hb⟩ := zBx Wd (prC pz0) 40
 have HNY : Hid (PrvAt Y O pz0) := hb
 clear hb
 have HNUM : Hid (w.heap.size = B ∧ B < D ∧ D < O ∧ W.heap.size ≤ w.heap.size) := by
  have h1 := HOX.out; have h2 := HSZX.out; have h3 := HOZ.out; have h4 := HSZZ.out; have h5 := HOY.out; have h6 := HG.out.1.ft.bel.size
  exact ⟨by omega, by omega, by omega, h6⟩
 have HBW : Hid (Below w.heap.size w Y) := bthen (bthen HLX.out HLZ.out) HLY.out
 have H0 : Hid (PrvAt Y B (⟨some ⟨t, 0, none⟩, c, a, n, k, ly⟩ : XV) ∧ StpAt Y D s ∧ PrvAt Y O pz0 ∧ FT W t M N c E Y) := ⟨(HBX.out.below HLZ.out).below HLY.out, HBZ.out.below HLY.out, HNY.out, HG.out.1.ft.below HBW.out⟩
 have HKD : Hid (s.kd = 5) := hk
 have c0 : Y.cell? ⟨B, 0, none⟩ = some (.pointer (some ⟨t, 0, none⟩)) := H0.out.1.cell 0
 have d0 : Y.cell? ⟨D, 0, none⟩ = some (.int .i64 5) := by have h1 := H0.out.2.1.cell 0; rw [← hk]; exact h1
 have q11 : ((5 : Int) == 1) = false := rfl
 have q12 : ((5 : Int) == 2) = false := rfl
 have q13 : ((5 : Int) == 3) = false := rfl
 have q14 : ((5 : Int) == 4) = false := rfl
 have q15 : ((5 : Int) == 5) = true := rfl
 clear hk
 go_enter Tryz.func6, Tryz.ntmps6
 have QD : Hid _ := H0.out.2.2.2.dump
 go_upto_region 28 with (first | (rw [HOX.out, HWX.out]) | (rw [HOZ.out, HWZ.out]) | (refine wpList_alloc_prv rfl rfl ?_; rw [HEY.out, HOY.out]))
 go_wp2_with fail
 refine Calls.mono QD.out ?_
 rintro e1 w1 ⟨v, S, rfl, hR, hF, ⟨lg, lc, rfl⟩, b1⟩
 have hSL := dump_is HG.out.1.jr hR
 subst hSL
 obtain ⟨hln, hl4⟩ := HG.out.1.ln
 rw [hln]
 rw [hln] at hF
 have HF : Hid (FL w1 Y.heap.size (.slice (some ⟨lg, 0, none⟩) n lc) S) := hF
 have HLN : Hid (S.length = n ∧ n ≤ 4200 ∧ S.length ≤ 4096) := ⟨hln, hl4, by rw [HG.out.1.jr.len]; exact HG.out.1.ft.len⟩
 have H1 : Hid (PrvAt w1 B (⟨some ⟨t, 0, none⟩, c, a, n, k, ly⟩ : XV) ∧ PrvAt w1 O pz0 ∧ FT W t M N c E w1 ∧ FL w1 W.heap.size (.slice a n k) S ∧ Below w.heap.size w w1) := ⟨H0.out.1.below b1, H0.out.2.2.1.below b1, H0.out.2.2.2.below b1, (HG.out.1.fl.below HBW.out).below b1, bthen HBW.out b1⟩
 have HYO : Hid (O < Y.heap.size) := HNY.out.lt
 have HYS1 : Hid (Y.heap.size ≤ w1.heap.size) := b1.size
 clear hR hF b1 hln hl4 QD c0 d0 H0
 go_upto_region 29 with fail
 refine MixH.start (fun A => PrvAt A B (⟨some ⟨t, 0, none⟩, c, a, n, k, ly⟩ : XV)) (by kernel_rfl) ?_
 obtain ⟨wA, hwA⟩ : ∃ wA, wA = w1.drew := ⟨_, rfl⟩
 have bdr := zDr hwA
 have HA : Hid (FL wA Y.heap.size (.slice (some ⟨lg, 0, none⟩) n lc) S ∧ PrvAt wA O pz0 ∧ FT W t M N c E wA ∧ FL wA W.heap.size (.slice a n k) S ∧ Below w.heap.size w wA) := ⟨HF.out.below bdr, H1.out.2.1.below bdr, H1.out.2.2.1.below bdr, H1.out.2.2.2.1.below bdr, bthen H1.out.2.2.2.2 bdr⟩
 have hS : PrvAt wA B (⟨some ⟨t, 0, none⟩, c, a, n, k, ly⟩ : XV) := H1.out.1.below bdr
 have qnn : ((n : Int) != (n : Int)) = false := by simp
 have HYSA0 : Y.heap.size ≤ wA.heap.size := Nat.le_trans HYS1.out bdr.size
 rw [← hwA]
 have HYSA : Hid (Y.heap.size ≤ wA.heap.size) := HYSA0
 clear hwA bdr H1 HF
 refine MixH.tks [true, true, true] 13 hS (fun K hK => ?_)
 simp only [Mix.pick]
 repeat (go_big_quiet_step (fail))
 refine wpQuiet_nil (hK _ ?_)
 clear hK K
 refine MixH.tk 12 3 rfl (.slice a n k) (yields_rowF (.tmp 139) rfl ⟨B, 26, none⟩ _ rfl rfl (fun A hA => hA.cell 26)) hS (fun a' ha => ?_)
 simp only [zP1, zP2, zP3, zP4] at ha
 subst ha
 refine MixH.one [false, false, false, false, true] 11 4 _ rfl rfl (by kernel_rfl) (by kernel_rfl) (fun K hK => ?_)
 simp only [Mix.pick]
 go_wp2_with fail
 refine Calls.mono (sameFlows_any Y.heap.size W.heap.size (.slice (some ⟨lg, 0, none⟩) n lc) (.slice a n k) S wA HA.out.1 HA.out.2.2.2.1 HLN.out.2.2) ?_
 rintro e2 w2 ⟨rfl, b2⟩
 have HA2 : Hid (FL w2 Y.heap.size (.slice (some ⟨lg, 0, none⟩) n lc) S ∧ PrvAt w2 O pz0 ∧ FT W t M N c E w2 ∧ FL w2 W.heap.size (.slice a n k) S ∧ Below w.heap.size w w2) := ⟨HA.out.1.below b2, HA.out.2.1.below b2, HA.out.2.2.1.below b2, HA.out.2.2.2.1.below b2, bthen HA.out.2.2.2.2 b2⟩
 have hS' : PrvAt w2 B (⟨some ⟨t, 0, none⟩, c, a, n, k, ly⟩ : XV) := hS.below b2
 have HYS2 : Hid (Y.heap.size ≤ w2.heap.size) := Nat.le_trans HYSA.out b2.size
 clear hS b2
 have hS : PrvAt w2 B (⟨some ⟨t, 0, none⟩, c, a, n, k, ly⟩ : XV) := hS'
 clear hS'
 have QL : Hid (Calls Tryz.prog 8 #[.pointer (some ⟨t, 0, none⟩)] w2 fun r w' => r = .returned (.int .i64 (n : Nat)) ∧ w2 = w') := by have h1 := HA2.out.2.2.1.lens; rw [← HG.out.1.jr.len, HLN.out.1] at h1; exact h1
 go_wp2_with fail
 refine ⟨rfl, hK _ _ hS ?_⟩
 clear hK K
 refine MixH.tks [false, false, false, false, false, true, true, true, false, false, true, true] 6 hS (fun K hK => ?_)
 simp only [Mix.pick]
 repeat (go_big_quiet_step (fail))
 refine wpQuiet_nil (hK _ ?_)
 clear hK K
 refine MixH.tk 5 8 rfl (.pointer (some ⟨t, 0, none⟩)) (yields_tblp (.tmp 144) rfl ⟨B, 0, none⟩ _ rfl rfl (fun A hA => hA.cell 0)) hS (fun a' ha => ?_)
 simp only [zP1, zP2, zP3, zP4] at ha
 subst ha
 refine MixH.tk 4 12 rfl (.slice a n k) (yields_rowF (.tmp 148) rfl ⟨B, 26, none⟩ _ rfl rfl (fun A hA => hA.cell 26)) hS (fun a' ha => ?_)
 simp only [zP1, zP2, zP3, zP4] at ha
 subst ha
 refine MixH.tks [false, false, false, false, false, false, false, false, false, false, false, false, false, true] 3 hS (fun K hK => ?_)
 simp only [Mix.pick]
 repeat (go_big_quiet_step (fail))
 refine wpQuiet_nil (hK _ ?_)
 clear hK K
 refine MixH.one [false, false, false, false, false, false, false, false, false, true] 2 9 _ rfl rfl (by kernel_rfl) (by kernel_rfl) (fun K hK => ?_)
 simp only [Mix.pick]
 go_wp2_with fail
 refine Calls.mono QL.out ?_
 rintro e3 _ ⟨rfl, rfl⟩
 go_wp2_with fail
 refine ⟨rfl, hK _ _ hS ?_⟩
 clear hK K
 refine MixH.tks [false, false, false, false, false, false, false, false, false, false, false, false, false, false, true, true] 0 hS (fun K hK => ?_)
 simp only [Mix.pick]
 repeat (go_big_quiet_step (fail))
 refine wpQuiet_nil (hK _ ?_)
 clear hK K
 refine MixH.done (by kernel_rfl) ?_
 have H2 : Hid (PrvAt w2 B (⟨some ⟨t, 0, none⟩, c, a, n, k, ly⟩ : XV)) := hS
 clear hS HA
 go_upto_region 31 with fail
 have QT : Hid _ := take_any w2 BK b (HG.out.2.1.bk.below HA2.out.2.2.2.2) HG.out.2.1.mg (some ⟨lg, 0, none⟩) lc n S (HA2.out.1.mono (Nat.zero_le _)) HLN.out.1 (by have := HLN.out; omega) (by have := HG.out.2.1.ln; have := HRR.out; omega) (fun q hq h1 => by have h2 := fl_base HA2.out.1 hq; have h3 := HG.out.2.1.bk.lt q h1; have h4 := HYO.out; have h5 := HNUM.out; omega)
 go_wp2_with fail
 refine Calls.mono QT.out ?_
 rintro e4 w3 ⟨rfl, b', hb1, hb2, hb3, hb4, k3⟩
 have HOW : Hid (∀ q, (Value.slice (some ⟨lg, 0, none⟩) n lc).ownBlock = some q → Y.heap.size ≤ q) := fun q hq => fl_base HA2.out.1 hq
 have HBL : Hid (∀ q, BB BK b q → q < w.heap.size) := HG.out.2.1.bk.lt
 have HB4 : Hid (BkM w3 BK b' ∧ b'.Mg = b'.G.map (fun r => r.2.2) ∧ b'.G.length ≤ r + 4 ∧ (∀ q, BB BK b' q → BB BK b q ∨ Y.heap.size ≤ q) ∧ Ch (BB BK b) w w3) := by
  have n1 := HNUM.out; have n2 := HYO.out
  have hyw : Y.heap.size ≤ w2.heap.size := HYS2.out
  refine ⟨hb1, hb2, by have := HG.out.2.1.ln; omega, fun q hq => ?_, ((Ch.ofBelow (S := fun _ => False) HA2.out.2.2.2.2).mono (T := BB BK b) (fun _ _ q => q.elim)).trans k3 (fun q hq h1 => ?_)⟩
  · rcases hb4 q hq with h1 | h1 | h1
    · exact .inl h1
    · exact .inr (HOW.out q h1)
    · exact .inr (by omega)
  · rcases h1 with h1 | h1
    · exact h1
    · have h2 := HOW.out q h1; omega
 have H3 : Hid (PrvAt w3 B (⟨some ⟨t, 0, none⟩, c, a, n, k, ly⟩ : XV) ∧ PrvAt w3 O pz0 ∧ True) := by
  have n1 := HNUM.out; have n2 := HYO.out
  have hne : ∀ Z, w.heap.size ≤ Z → Z < Y.heap.size → ¬ (BB BK b Z ∨ (Value.slice (some ⟨lg, 0, none⟩) n lc).ownBlock = some Z) := fun Z h1 h2 h3 => by
   rcases h3 with h3 | h3
   · have := HBL.out Z h3; omega
   · have := HOW.out Z h3; omega
  exact ⟨H2.out.ch k3 (hne B (by omega) (by omega)), HA2.out.2.1.ch k3 (hne O (by omega) (by omega)), trivial⟩
 clear hb1 hb2 hb3 hb4 k3 QT
 go_wp2_with (first | (refine wpList_load_prv (.tmp 3) rfl B (⟨some ⟨t, 0, none⟩, c, a, n, k, ly⟩ : XV) rfl H3.out.1 rfl ?_) | (refine wpList_store_prv (.tmp 6) (.tmp 157) rfl rfl O pz0 (⟨some ⟨t, 0, none⟩, c, a, n, k, ly⟩ : XV) rfl rfl H3.out.2.1 rfl ?_))
 intro w9 h9 k9
 go_wp2_with fail
 refine bodyPost_ret (results_prv2 rfl _ _ O _ rfl h9) rfl ?_
 have n1 := HNUM.out; have n2 := HYO.out
 have kk : Ch (BB BK b) w w9 := HB4.out.2.2.2.2.trans k9 (fun q hq e => by have e' : q = O := e; omega)
 refine ⟨a, n, k, ly, E, S, b', rfl, HG.out.1.ch kk (fun q hq => HG.out.2.1.far q hq) (fun q hq => HG.out.2.2.1 q hq), ⟨HB4.out.1.ch k9 (fun q hq e => ?_), HB4.out.2.1, HB4.out.2.2.1, fun q hq => ?_⟩, kk.mono (fun _ _ q => .inr q), fun q hq => .inl hq, fun q hq => (HB4.out.2.2.2.1 q hq).imp id (fun h => by omega), fun q hq h1 => ?_, fun h1 => ?_⟩
 · have e' : q = O := e
   rcases HB4.out.2.2.2.1 q hq with h1 | h1
   · have := HBL.out q h1; omega
   · omega
 · rcases HB4.out.2.2.2.1 q hq with h1 | h1
   · exact HG.out.2.1.far q h1
   · omega
 · rcases HB4.out.2.2.2.1 q h1 with h2 | h2
   · exact HG.out.2.2.1 q hq h2
   · have := HG.out.1.lt q hq; omega
 · have h2 := HKD.out
   omega
theorem step_any (W w : World) (t M N : Nat) (c : CF) (a : Option Addr) (n k : Nat) (ly : TU) (E : List FV) (L : List FN) (BK : Nat) (b : BV) (r : Nat) (s : SV) (h : StP W t M N c a n k ly E L w) (hB : BkP W BK b r w) (hd : ∀ q, KPB t M N a n k E q → ¬ BB BK b q) (g : Gl W) (hs : s.Wf) (hr : r ≤ 90000) : Calls Tryz.prog 6 #[.agg (prC (⟨some ⟨t, 0, none⟩, c, a, n, k, ly⟩ : XV)), .agg (stC s), .pointer (some ⟨BK, 0, none⟩)] w (StD W t M N c a n k E BK b r s w) := by
 by_cases h1 : s.kd = 1
 · exact step_out W w t M N c a n k ly E L BK b r s h hB hd g hs h1
 by_cases h2 : s.kd = 2 ∨ s.kd = 3
 · exact step_in W w t M N c a n k ly E L BK b r s h hB hd g hs h2
 by_cases h4 : s.kd = 4
 · exact step_tick W w t M N c a n k ly E L BK b r s h hB hd g hs h4
 by_cases h5 : s.kd = 5
 · exact step_dump W w t M N c a n k ly E L BK b r s h hB hd g hs hr h5
 exact step_no W w t M N c a n k ly E L BK b r s h hB hd g hs ⟨h1, fun h => h2 (.inl h), fun h => h2 (.inr h), h4, h5⟩
end Go.Proofs.YtclpeepnngegaaaGreatDoor
