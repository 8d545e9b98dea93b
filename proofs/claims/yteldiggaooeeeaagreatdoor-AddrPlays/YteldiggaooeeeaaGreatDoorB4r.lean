/-
  weirref4: Mask.
-/
import Derived.Test.YteldiggaooeeeaaGreatDoorB4q
namespace Go.Proofs.YteldiggaooeeeaaGreatDoor
open Go.RowKit Go.Maps

theorem wpList_box_ipN {ops : Array Oper} {rest : List Oper} {o : Oper} {a : Act} {w : World} {Q : Exit → Act → World → Prop} (X : Operand) (ho : o.op = .box 28 X) (V : Int) (x : Nat → Nat) (hx : a.eval X = .agg (ipCells V x)) (hw : Region.wanted o (yielded ops a.tmps) = true)
    (h : ∀ B W, Hid (w.heap.size = B ∧ W.heap.size = B + 1) → IprAt W B V x → Below w.heap.size w W → wpList Tryz.prog ops Q rest (a.put o.dst (.pointer (some ⟨B, 0, none⟩))) W) : wpList Tryz.prog ops Q (o :: rest) a w := by
  refine wpList_step fun K hK => ?_
  rw [if_pos hw]
  have hrun : (execOp a.eval o).run Tryz.prog w = .ok (.value (.pointer (some ⟨w.heap.size, 0, none⟩))) (w.alloc (.cells (ipCells V x) 28)) := by
    obtain ⟨dst, op, type, pos, after, guard⟩ := o
    simp only at ho
    subst ho
    simp only [execOp, hx]
    go_simp
  unfold Oper.wp
  rw [hrun]
  exact hK _ _ (h _ _ ⟨rfl, World.size_alloc _ _⟩ (ipr_new _ _ _) ((Below.refl _ _).alloc (Nat.le_refl _) _))
theorem wpList_nil_ipN {ops : Array Oper} {rest : List Oper} {o : Oper} {a : Act} {w : World} {Q : Exit → Act → World → Prop} (ho : o.op = .alloc 28) (hw : Region.wanted o (yielded ops a.tmps) = true)
    (h : ∀ B W, Hid (w.heap.size = B ∧ W.heap.size = B + 1) → IprAt W B 0 (fun _ => 0) → Below w.heap.size w W → wpList Tryz.prog ops Q rest (a.put o.dst (.pointer (some ⟨B, 0, none⟩))) W) : wpList Tryz.prog ops Q (o :: rest) a w :=
  wpList_alloc_ipr ho hw (h _ _ ⟨rfl, World.size_alloc _ _⟩ (ipr_new _ _ _) ((Below.refl _ _).alloc (Nat.le_refl _) _))
theorem run_bVz (V : Int) (w : World) : (Instr.build 28 #[(0, .int .i64 V)]).run Tryz.prog w = .ok (.agg (ipCells V (fun _ => 0))) w := by kernel_rfl
theorem wpList_bVz {ops : Array Oper} {rest : List Oper} {o : Oper} {a_ : Act} {w : World} {Q : Exit → Act → World → Prop} (y0 : Operand) (ho : o.op = .build 28 #[(0, y0)]) (V : Int) (h0 : a_.eval y0 = .int .i64 V) (hw : Region.wanted o (yielded ops a_.tmps) = true)
    (h : wpList Tryz.prog ops Q rest (a_.put o.dst (.agg (ipCells V (fun _ => 0)))) w) : wpList Tryz.prog ops Q (o :: rest) a_ w := by
  refine wpList_step fun K hK => ?_
  rw [if_pos hw]
  have hrun : (execOp a_.eval o).run Tryz.prog w = .ok (.value (.agg (ipCells V (fun _ => 0)))) w := by
    obtain ⟨dst, op, type, pos, after, guard⟩ := o
    simp only at ho
    subst ho
    simp only [execOp, Sem.run_bind, List.map_toArray, List.map_cons, List.map_nil, h0, run_bVz V w, Result.andThen_ok]
    rfl
  unfold Oper.wp
  rw [hrun]
  exact hK _ _ h
theorem ipc_congr {V : Int} {x y : Nat → Nat} (h : ∀ i, i < 16 → x i = y i) : ipCells V x = ipCells V y := by
  unfold ipCells
  rw [h 0 (by decide), h 1 (by decide), h 2 (by decide), h 3 (by decide), h 4 (by decide), h 5 (by decide), h 6 (by decide), h 7 (by decide), h 8 (by decide), h 9 (by decide), h 10 (by decide), h 11 (by decide), h 12 (by decide), h 13 (by decide), h 14 (by decide), h 15 (by decide)]
def mkP (x : Nat → Nat) (n i : Nat) (k : Nat) : Nat := if k < i then hdA x n k else 0
theorem mkP_up (x : Nat → Nat) (n i : Nat) : up1 (mkP x n i) i (hdA x n i) = mkP x n (i + 1) := by
  funext k
  unfold up1 mkP
  by_cases h : k = i
  · subst h
    simp
  · by_cases h2 : k < i
    · simp [h, h2, show k < i + 1 by omega]
    · simp [h, h2, show ¬ k < i + 1 by omega]
set_option maxHeartbeats 1600000 in
set_option maxRecDepth 100000 in
theorem maskR_any (V : Int) (x : Nat → Nat) (n : Int) (w : World) (hx : ∀ i, i < 16 → x i < 256) : Calls Tryz.prog 56 #[.agg (ipCells V x), .int .i64 n] w fun r w' => r = .returned (.tuple #[.agg (ipCells (mkV V x n) (mkX V x n)), .int .i64 (mkE V x n : Nat)]) ∧ Below w.heap.size w w' := by
  have HX : Hid (∀ i, i < 16 → x i < 256) := hx
  clear hx
  go_enter Tryz.func56, Tryz.ntmps56
  go_wp2_with (refine wpList_box_ipN (.tmp 0) rfl V x rfl rfl ?_)
  intro B W1 HB1 hI bI
  go_wp2_with (refine wpList_nil_ipN rfl rfl ?_)
  intro R W2 HR1 hR bR
  have HBR : Hid (w.heap.size ≤ B ∧ B < R) := ⟨by have := HB1.out; omega, by have := HB1.out; have := HR1.out; omega⟩
  have H2 : Hid (IprAt W2 B V x ∧ IprAt W2 R 0 (fun _ => 0) ∧ Below w.heap.size w W2) := ⟨hI.below bR, hR, bthen bI bR⟩
  clear hI bI hR bR HB1 HR1
  go_wp2_with (refine wpList_load_ipr (.tmp 2) rfl B V x rfl H2.out.1 rfl ?_)
  refine (validR_any V x W2).mono ?_
  rintro e w3 ⟨rfl, hb⟩
  have H3 : Hid (IprAt w3 B V x ∧ IprAt w3 R 0 (fun _ => 0) ∧ Below w.heap.size w w3) := ⟨H2.out.1.below hb, H2.out.2.1.below hb, H2.out.2.2.trans (hb.mono H2.out.2.2.size)⟩
  clear hb H2
  have hME := mkE_R V x n HX.out
  cases hv : vR V x with
  | false =>
    have HE : Hid (mkE V x n = 40) := by show mkE V x n = 40; rw [hME, hv]; rfl
    clear hME
    go_wp2_with (first | (refine wpList_store_ipr (.tmp 4) (.tmp 15) rfl rfl R 0 (fun _ => 0) 0 (fun _ => 0) rfl rfl H3.out.2.1 rfl ?_))
    intro wE hRE kE
    have HRE : Hid (IprAt wE R 0 (fun _ => 0) ∧ Below w.heap.size w wE) := ⟨hRE, H3.out.2.2.trans (kE.below (fun q e => by have e' : q = R := e; have := HBR.out; omega) H3.out.2.2.size)⟩
    clear hRE kE
    go_wp2
    (try simp only [Exit.inBlock, Exit.then])
    refine bodyPost_ret (results_ipr_tmp rfl _ _ R 0 (fun _ => 0) rfl HRE.out.1) rfl ?_
    refine ⟨?_, HRE.out.2⟩
    unfold mkV mkX
    rw [HE.out]
    rfl
  | true =>
    rw [hv, if_pos rfl] at hME
    by_cases h0 : n < 0
    · have HE : Hid (mkE V x n = 45) := by show mkE V x n = 45; rw [hME, decide_eq_true h0]; rfl
      have q0 : decide (n < 0) = true := decide_eq_true h0
      clear hME
      go_wp2_with (first | (refine wpList_store_ipr (.tmp 4) (.tmp 24) rfl rfl R 0 (fun _ => 0) 0 (fun _ => 0) rfl rfl H3.out.2.1 rfl ?_))
      intro wE hRE kE
      have HRE : Hid (IprAt wE R 0 (fun _ => 0) ∧ Below w.heap.size w wE) := ⟨hRE, H3.out.2.2.trans (kE.below (fun q e => by have e' : q = R := e; have := HBR.out; omega) H3.out.2.2.size)⟩
      clear hRE kE
      go_wp2
      (try simp only [Exit.inBlock, Exit.then])
      refine bodyPost_ret (results_ipr_tmp rfl _ _ R 0 (fun _ => 0) rfl HRE.out.1) rfl ?_
      refine ⟨?_, HRE.out.2⟩
      unfold mkV mkX
      rw [HE.out]
      rfl
    · have q0 : decide (n < 0) = false := decide_eq_false h0
      rw [q0, Bool.false_or] at hME
      have HM : Hid (mkE V x n = if decide ((wdN V : Int) < n) = true then 45 else 0) := hME
      have H0 : Hid (¬ n < 0) := h0
      clear hME
      go_upto_region 4 with fail
      go_wp2_with (refine wpList_load_ipr (.tmp 2) rfl B V x rfl H3.out.1 rfl ?_)
      refine (width_any V x w3).mono ?_
      rintro e w4 ⟨rfl, hb⟩
      have H4 : Hid (IprAt w4 B V x ∧ IprAt w4 R 0 (fun _ => 0) ∧ Below w.heap.size w w4) := ⟨H3.out.1.below hb, H3.out.2.1.below hb, H3.out.2.2.trans (hb.mono H3.out.2.2.size)⟩
      clear hb H3
      by_cases hw : (wdN V : Int) < n
      · have HE : Hid (mkE V x n = 45) := by show mkE V x n = 45; rw [HM.out, decide_eq_true hw]; rfl
        have q1 : decide (n > (wdN V : Int)) = true := decide_eq_true hw
        have q2 : (wdN V : Int) < n := hw
        go_wp2_with (first | (refine wpList_store_ipr (.tmp 4) (.tmp 24) rfl rfl R 0 (fun _ => 0) 0 (fun _ => 0) rfl rfl H4.out.2.1 rfl ?_))
        intro wE hRE kE
        have HRE : Hid (IprAt wE R 0 (fun _ => 0) ∧ Below w.heap.size w wE) := ⟨hRE, H4.out.2.2.trans (kE.below (fun q e => by have e' : q = R := e; have := HBR.out; omega) H4.out.2.2.size)⟩
        clear hRE kE
        go_wp2
        (try simp only [Exit.inBlock, Exit.then])
        refine bodyPost_ret (results_ipr_tmp rfl _ _ R 0 (fun _ => 0) rfl HRE.out.1) rfl ?_
        refine ⟨?_, HRE.out.2⟩
        unfold mkV mkX
        rw [HE.out]
        rfl
      · have HE : Hid (mkE V x n = 0) := by show mkE V x n = 0; rw [HM.out, decide_eq_false hw]; rfl
        have q1 : decide (n > (wdN V : Int)) = false := decide_eq_false hw
        have HN : Hid (n = (n.toNat : Int) ∧ n.toNat ≤ 128) := by
          have h1 := H0.out
          have h2 : wdN V ≤ 128 := by rw [wd_bit]; exact bitV_le _
          exact ⟨by omega, by omega⟩
        clear h0 q0 HM
        have k0 : w4.cell? ⟨B, 0, none⟩ = some (.int .i64 V) := H4.out.1.cell 0
        go_wp2_with (first | (refine wpList_bVz (.tmp 26) rfl V rfl rfl ?_) | (refine wpList_nil_ipN rfl rfl ?_))
        intro C W5 HC5 hC bC
        clear k0 q1 hw
        go_wp2_with (refine wpList_store_ipr (.tmp 7) (.tmp 27) rfl rfl C 0 (fun _ => 0) V (fun _ => 0) rfl rfl hC rfl ?_)
        intro W6 hC6 k6
        have HCC : Hid (R < C) := by have h := H4.out.2.1.lt; have := HC5.out; show R < C; omega
        have H6 : Hid (IprAt W6 B V x ∧ IprAt W6 R 0 (fun _ => 0) ∧ IprAt W6 C V (mkP x n.toNat 0) ∧ Below w.heap.size w W6) := by
          have h1 := HBR.out
          have h2 := HCC.out
          have b5 := H4.out.2.2.trans (bC.mono H4.out.2.2.size)
          refine ⟨(H4.out.1.below bC).ch k6 (by omega), (H4.out.2.1.below bC).ch k6 (by omega), ?_, b5.trans (k6.below (fun q hq => by have h' : q = C := hq; omega) b5.size)⟩
          have e : mkP x n.toNat 0 = fun _ => 0 := by funext k; simp [mkP]
          rw [e]
          exact hC6
        clear hC bC HC5 hC6 k6 H4
        go_wp2
        go_loopw [8, 9, 10] (fun iv _ _ wr => ∃ i : Nat, i ≤ 16 ∧ iv = .int .i64 (i : Nat) ∧ Hid (IprAt wr B V x ∧ IprAt wr R 0 (fun _ => 0) ∧ IprAt wr C V (mkP x n.toNat i) ∧ Below w.heap.size w wr)) (fun iv _ _ _ => 16 - (intOf iv).toNat)
        case atStart => exact ⟨0, by omega, rfl, H6.out⟩
        case round =>
          obtain ⟨i, hi, rfl, HF⟩ := hrel
          by_cases hil : i < 16
          · have HI : Hid (i < 16) := hil
            obtain ⟨j, hj⟩ : ∃ j, 8 * i = j := ⟨_, rfl⟩
            have HJ : Hid (8 * i = j) := hj
            have z1 : IntKind.i64.wrap (8 * (i : Int)) = (j : Int) := by rw [i64_s _ (by omega) (by omega)]; omega
            have z2 : IntKind.i64.wrap ((j : Int) + 8) = (j : Int) + 8 := i64_s _ (by omega) (by omega)
            have z3 : IntKind.i64.wrap ((i : Int) + 1) = (i : Int) + 1 := i64_s _ (by omega) (by omega)
            have p1 : decide ((i : Int) < 16) = true := decide_eq_true (by omega)
            have p2 : (i : Int) < 16 := by omega
            clear hil hi hj
            go_wp2
            go_loopw [9, 10] (fun cv kv wx => ∃ m : Nat, m ≤ 8 ∧ cv = .int .i64 ((hdA x n.toNat i / 2 ^ (8 - m) : Nat) : Int) ∧ kv = .int .i64 ((j + m : Nat) : Int) ∧ Hid (IprAt wx B V x ∧ IprAt wx R 0 (fun _ => 0) ∧ IprAt wx C V (mkP x n.toNat i) ∧ Below w.heap.size w wx)) (fun _ kv _ => j + 8 - (intOf kv).toNat)
            case atStart => exact ⟨0, by omega, by rw [mk_first (HX.out i HI.out)]; rfl, by simp, HF.out⟩
            case round =>
              obtain ⟨m, hm, rfl, rfl, HG⟩ := hrel
              obtain ⟨c, hc⟩ : ∃ c, hdA x n.toNat i / 2 ^ (8 - m) = c := ⟨_, rfl⟩
              obtain ⟨K, hK⟩ : ∃ K, j + m = K := ⟨_, rfl⟩
              have HC : Hid (hdA x n.toNat i / 2 ^ (8 - m) = c ∧ c < 256) := ⟨hc, by rw [← hc]; exact Nat.lt_of_le_of_lt (Nat.div_le_self _ _) (hdA_ltB (HX.out i HI.out))⟩
              have HK : Hid (j + m = K) := hK
              rw [hc, hK]
              clear hc hK
              by_cases hml : m < 8
              · have HM : Hid (m < 8) := hml
                have c1 : decide ((K : Int) < (j : Int) + 8) = true := decide_eq_true (by have := HK.out; omega)
                have c2 : (K : Int) < (j : Int) + 8 := by have := HK.out; omega
                have c3 : IntKind.i64.wrap (2 * (c : Int)) = ((2 * c : Nat) : Int) := by rw [i64_s _ (by omega) (by have := HC.out; omega)]; omega
                have c4 : IntKind.i64.wrap ((K : Int) + 1) = (K : Int) + 1 := i64_s _ (by omega) (by have := HK.out; have := HJ.out; have := HI.out; omega)
                have HST : Hid (hdA x n.toNat i / 2 ^ (8 - (m + 1)) = 2 * c + (if K < n.toNat then btN x K else 0)) := by
                  have h := mk_step (n := n.toNat) (HX.out i HI.out) hml
                  rw [HC.out.1, HJ.out, HK.out] at h
                  exact h
                clear hml hm
                by_cases hkn : K < n.toNat
                · have d1 : decide ((K : Int) < n) = true := decide_eq_true (by have := HN.out; omega)
                  have d2 : (K : Int) < n := by have := HN.out; omega
                  have HB : Hid (btN x K < 2 ∧ hdA x n.toNat i / 2 ^ (8 - (m + 1)) = 2 * c + btN x K) := ⟨Nat.mod_lt _ (by decide), by rw [HST.out, if_pos hkn]⟩
                  clear hkn HST
                  go_wp2_with (refine wpList_load_ipr (.tmp 2) rfl B V x rfl HG.out.1 rfl ?_)
                  refine (bit_any V x K wr (by have := HK.out; have := HJ.out; have := HI.out; have := HM.out; omega) HX.out).mono ?_
                  rintro e w7 ⟨rfl, hb⟩
                  have H7 : Hid (IprAt w7 B V x ∧ IprAt w7 R 0 (fun _ => 0) ∧ IprAt w7 C V (mkP x n.toNat i) ∧ Below w.heap.size w w7) := ⟨HG.out.1.below hb, HG.out.2.1.below hb, HG.out.2.2.1.below hb, HG.out.2.2.2.trans (hb.mono HG.out.2.2.2.size)⟩
                  clear hb
                  have c5 : IntKind.i64.wrap (((2 * c : Nat) : Int) + ((btN x K : Nat) : Int)) = ((2 * c + btN x K : Nat) : Int) := by rw [i64_s _ (by omega) (by have := HC.out; have := HB.out; omega)]; omega
                  have c6 : IntKind.i64.wrap (2 * (c : Int) + ((btN x K : Nat) : Int)) = ((2 * c + btN x K : Nat) : Int) := by rw [i64_s _ (by omega) (by have := HC.out; have := HB.out; omega)]; omega
                  go_wp2_with fail
                  go_roundw
                  case rel => exact ⟨m + 1, HM.out, by rw [HB.out.2]; simp, by have := HK.out; congr 1; omega, H7.out⟩
                  case measure => have := HK.out; have := HM.out; simp [intOf]; omega
                · have d1 : decide ((K : Int) < n) = false := decide_eq_false (by have := HN.out; omega)
                  have d2 : ¬ (K : Int) < n := by have := HN.out; omega
                  have HB : Hid (hdA x n.toNat i / 2 ^ (8 - (m + 1)) = 2 * c) := by
                    show hdA x n.toNat i / 2 ^ (8 - (m + 1)) = 2 * c
                    rw [HST.out, if_neg hkn, Nat.add_zero]
                  clear hkn HST
                  go_wp2
                  go_roundw
                  case rel => exact ⟨m + 1, HM.out, by rw [HB.out]; simp, by have := HK.out; congr 1; omega, HG.out⟩
                  case measure => have := HK.out; have := HM.out; simp [intOf]; omega
              · have HM : Hid (m = 8) := by show m = 8; omega
                have c1 : decide ((K : Int) < (j : Int) + 8) = false := decide_eq_false (by have := HK.out; omega)
                have c2 : ¬ (K : Int) < (j : Int) + 8 := by have := HK.out; omega
                have HCH : Hid (c = hdA x n.toNat i) := by
                  have h := HC.out.1
                  rw [HM.out, mk_last] at h
                  exact h.symm
                have c3 : IntKind.u8.wrap (c : Int) = (c : Int) := u8_s _ (by omega) (by have := HC.out; omega)
                clear hml hm
                have cb := HG.out.2.2.1.byte i HI.out
                have fb := HG.out.2.2.1.fz (1 + i)
                obtain ⟨w8, hw8⟩ : ∃ W_, W_ = wr.setCell ⟨C, 1 + i, none⟩ (.int .u8 (c : Nat)) := ⟨_, rfl⟩
                have HW8 : Hid (wr.setCell ⟨C, 1 + i, none⟩ (.int .u8 (c : Nat)) = w8) := hw8.symm
                have H8 : Hid (IprAt w8 B V x ∧ IprAt w8 R 0 (fun _ => 0) ∧ IprAt w8 C V (mkP x n.toNat (i + 1)) ∧ Below w.heap.size w w8) := by
                  have k8 : Ch (fun q => q = C) wr w8 := by rw [hw8]; exact (Ch.refl (fun q => q = C) wr).set ⟨C, 1 + i, none⟩ _ rfl
                  have h1 := HBR.out
                  have h2 := HCC.out
                  have hp := HG.out.2.2.1.put i c HI.out
                  rw [HCH.out, mkP_up, ← HCH.out, ← hw8] at hp
                  exact ⟨HG.out.1.ch k8 (by omega), HG.out.2.1.ch k8 (by omega), hp, HG.out.2.2.2.trans (k8.below (fun q hq => by have h' : q = C := hq; omega) HG.out.2.2.2.size)⟩
                clear hw8
                go_upto_region 9 with fail
                rw [HW8.out]
                clear cb fb
                go_wp2
                go_roundw
                case rel => exact ⟨i + 1, HI.out, by simp, H8.out⟩
                case measure => have := HI.out; simp [intOf]; omega
          · have HE16 : Hid (i = 16) := by show i = 16; omega
            obtain rfl := HE16.out
            clear hil hi HE16
            go_wp2_with (first | (refine wpList_load_ipr (.tmp 7) rfl C V (mkP x n.toNat 16) rfl HF.out.2.2.1 rfl ?_) | (refine wpList_store_ipr (.tmp 4) (.tmp 56) rfl rfl R 0 (fun _ => 0) V (mkP x n.toNat 16) rfl rfl HF.out.2.1 rfl ?_))
            intro wE hRE kE
            have HRE : Hid (IprAt wE R V (mkP x n.toNat 16) ∧ Below w.heap.size w wE) := ⟨hRE, HF.out.2.2.2.trans (kE.below (fun q e => by have e' : q = R := e; have := HBR.out; omega) HF.out.2.2.2.size)⟩
            clear hRE kE
            go_wp2
            (try simp only [Exit.inBlock, Exit.then])
            refine bodyPost_ret (results_ipr_tmp rfl _ _ R V (mkP x n.toNat 16) rfl HRE.out.1) rfl ?_
            refine ⟨?_, HRE.out.2⟩
            unfold mkV mkX
            rw [HE.out, if_pos rfl, if_pos rfl, ipc_congr (x := hdA x n.toNat) (y := mkP x n.toNat 16) (fun k hk => by unfold mkP; rw [if_pos hk])]
            rfl
end Go.Proofs.YteldiggaooeeeaaGreatDoor
