/-
  weirlaw4.AddrNets: the walk.
-/
import Derived.Test.YtfeabifjnihooaaDoorAdSta
namespace Go.Proofs.YtfeabifjnihooaaDoor
open Go.RowKit Go.Maps

theorem run_bpf4 (V : Int) (x : Nat → Nat) (n : Int) (w : World) : (Instr.build 37 #[(0, .agg (ipCells V x)), (1, .int .i64 n)]).run Tryd.prog w = .ok (.agg (pfC ⟨V, x, n⟩)) w := by kernel_rfl
theorem wpList_bpf4 {ops : Array Oper} {rest : List Oper} {o : Oper} {a_ : Act} {w : World} {Q : Exit → Act → World → Prop} (y0 y1 : Operand) (ho : o.op = .build 37 #[(0, y0), (1, y1)]) (V : Int) (x : Nat → Nat) (n : Int) (h0 : a_.eval y0 = .agg (ipCells V x)) (h1 : a_.eval y1 = .int .i64 n) (hw : Region.wanted o (yielded ops a_.tmps) = true)
    (h : wpList Tryd.prog ops Q rest (a_.put o.dst (.agg (pfC ⟨V, x, n⟩))) w) : wpList Tryd.prog ops Q (o :: rest) a_ w := by
  refine wpList_step fun K hK => ?_
  rw [if_pos hw]
  have hrun : (execOp a_.eval o).run Tryd.prog w = .ok (.value (.agg (pfC ⟨V, x, n⟩))) w := by
    obtain ⟨dst, op, type, pos, after, guard⟩ := o
    simp only at ho
    subst ho
    simp only [execOp, Sem.run_bind, List.map_toArray, List.map_cons, List.map_nil, h0, h1, run_bpf4 V x n w, Result.andThen_ok]
    rfl
  unfold Oper.wp
  rw [hrun]
  exact hK _ _ h
theorem wpList_eql_ipb {ops : Array Oper} {rest : List Oper} {o : Oper} {a : Act} {w : World} {Q : Exit → Act → World → Prop} (X Y : Operand) (ho : o.op = .binOp .eql 27 X Y 27) (V U : Int) (x y : Nat → Nat) (hx : a.eval X = .agg (ipCells V x)) (hy : a.eval Y = .agg (ipCells U y)) (b : Bool) (hbb : (V == U && same16 x y) = b)
    (hw : Region.wanted o (yielded ops a.tmps) = true) (h : wpList Tryd.prog ops Q rest (a.put o.dst (.bool b)) w) : wpList Tryd.prog ops Q (o :: rest) a w := by
  subst hbb
  exact wpList_eql_ip X Y ho V U x y hx hy hw h
theorem mkX_lt {V : Int} {x : Nat → Nat} {n : Int} (h : ∀ i, i < 16 → x i < 256) : ∀ i, i < 16 → mkX V x n i < 256 := fun i hi => by
  unfold mkX
  split
  · exact hdA_lt _ h i hi
  · show (0 : Nat) < 256; decide
theorem mk_bad {V : Int} {x : Nat → Nat} {n : Int} (h : mkE V x n ≠ 0) : mkV V x n = 0 ∧ mkX V x n = fun _ => 0 := by unfold mkV mkX; rw [if_neg h, if_neg h]; exact ⟨rfl, rfl⟩
set_option maxHeartbeats 16000000 in
set_option maxRecDepth 100000 in
theorem addrNets.walk (w : World) (hp : Pow w) (hs : Spe8 w) (V : Int) (x : Nat → Nat) (hx : ∀ i, i < 16 → x i < 256) (U : Int) (y : Nat → Nat) (hy : ∀ i, i < 16 → y i < 256) (n m : Int) : Calls Tryd.prog 4 #[.agg (ipCells V x), .agg (ipCells U y), .int .i64 n, .int .i64 m] w fun r w' => r = .returned (.bool true) ∧ Below w.heap.size w w' := by
  have HPW : Hid (Pow w) := hp
  have HSP : Hid (Spe8 w) := hs
  have HX : Hid (∀ i, i < 16 → x i < 256) := hx
  have HY : Hid (∀ i, i < 16 → y i < 256) := hy
  clear hp hs hx hy
  have hb := ipr_new w V x
  have bel : Below w.heap.size w (w.alloc (.cells (ipCells V x) 27)) := (Below.refl _ _).alloc (Nat.le_refl _) _
  obtain ⟨CX, hC⟩ : ∃ C, C = ipCells V x := ⟨_, rfl⟩
  obtain ⟨W, hW⟩ : ∃ W_, W_ = w.alloc (.cells (ipCells V x) 27) := ⟨_, rfl⟩
  rw [← hW] at hb bel
  have HSZX : Hid (W.heap.size = w.heap.size + 1) := by show _ = _; rw [hW, World.size_alloc]
  obtain ⟨B, hB⟩ : ∃ B, B = w.heap.size := ⟨_, rfl⟩
  rw [← hB] at hb
  have HBX : Hid (IprAt W B V x) := hb
  rw [← hC] at hW ⊢
  have HOX : Hid (w.heap.size = B) := hB.symm
  have HLX : Hid (Below w.heap.size w W) := bel
  have HWX : Hid (w.alloc (.cells CX 27) = W) := hW.symm
  clear hb hW hB hC bel
  have hb := ipr_new W U y
  have bel : Below W.heap.size W (W.alloc (.cells (ipCells U y) 27)) := (Below.refl _ _).alloc (Nat.le_refl _) _
  obtain ⟨CY, hC⟩ : ∃ C, C = ipCells U y := ⟨_, rfl⟩
  obtain ⟨Y, hW⟩ : ∃ W_, W_ = W.alloc (.cells (ipCells U y) 27) := ⟨_, rfl⟩
  rw [← hW] at hb bel
  have HSZY : Hid (Y.heap.size = W.heap.size + 1) := by show _ = _; rw [hW, World.size_alloc]
  obtain ⟨D, hB⟩ : ∃ B, B = W.heap.size := ⟨_, rfl⟩
  rw [← hB] at hb
  have HBY : Hid (IprAt Y D U y) := hb
  rw [← hC] at hW ⊢
  have HOY : Hid (W.heap.size = D) := hB.symm
  have HLY : Hid (Below W.heap.size W Y) := bel
  have HWY : Hid (W.alloc (.cells CY 27) = Y) := hW.symm
  clear hb hW hB hC bel
  have HD : Hid (B + 1 = D) := by have h1 := HSZX.out; have h2 := HOX.out; have h3 := HOY.out; show _ = _; omega
  have H0 : Hid (IprAt Y B V x ∧ IprAt Y D U y ∧ Below w.heap.size w Y) := ⟨HBX.out.below HLY.out, HBY.out, HLX.out.trans (HLY.out.mono HLX.out.size)⟩
  go_enter Tryd.func4, Tryd.ntmps4
  go_upto_region 1 with fail
  rw [HOX.out, HWX.out, HD.out, HWY.out]
  go_wp2_with (first | (refine wpList_load_ipr (.tmp 4) rfl B V x rfl H0.out.1 rfl ?_))
  refine (mask_any V x n Y HX.out).mono ?_
  rintro e w1 ⟨rfl, hb⟩
  have H2 : Hid (IprAt w1 B V x ∧ IprAt w1 D U y ∧ Below w.heap.size w w1) := ⟨H0.out.1.below hb, H0.out.2.1.below hb, H0.out.2.2.trans (hb.mono H0.out.2.2.size)⟩
  clear hb
  by_cases he : mkE V x n = 0
  · have HE : Hid (mkE V x n = 0) := he
    rw [(mk_at he).2, he]
    obtain ⟨x1, hx1⟩ : ∃ x1, x1 = mkX V x n := ⟨_, rfl⟩
    have HX1 : Hid (x1 = mkX V x n) := hx1
    have HX1L : Hid (∀ i, i < 16 → x1 i < 256) := by show ∀ i, i < 16 → x1 i < 256; rw [hx1]; exact mkX_lt HX.out
    have HCS : Hid (vpE ⟨V, x1, n⟩ = 0 ∧ conB ⟨V, x1, n⟩ V x = true ∧ conB ⟨V, x1, n⟩ V x1 = true) := by rw [hx1]; exact ⟨vp_mask he, con_self he, con_at he⟩
    rw [← hx1]
    clear he hx1
    obtain ⟨O1, hO⟩ : ∃ O_, O_ = w1.heap.size := ⟨_, rfl⟩
    have HOO1 : Hid (w1.heap.size = O1) := hO.symm
    clear hO
    go_wp2_with (first | (refine wpList_store_ipr (.tmp 9) (.tmp 24) rfl rfl w1.heap.size 0 (fun _ => 0) V x1 rfl rfl (ipr_new w1 0 (fun _ => 0)) rfl ?_))
    intro w7 hRE kE
    rw [HOO1.out] at hRE kE ⊢
    have bN : Below w1.heap.size w1 w7 := ((Below.refl _ _).alloc (Nat.le_refl _) _).trans (kE.below (fun q h => by have h' : q = O1 := h; have := HOO1.out; omega) (by rw [World.size_alloc]; omega))
    have H8 : Hid (IprAt w7 B V x ∧ IprAt w7 D U y ∧ IprAt w7 O1 V x1 ∧ Below w.heap.size w w7) := ⟨H2.out.1.below bN, H2.out.2.1.below bN, hRE, H2.out.2.2.trans (bN.mono H2.out.2.2.size)⟩
    clear hRE kE bN
    go_wp2_with fail
    refine (num4_any _ w7).mono ?_
    rintro e wz ⟨rfl, rfl⟩
    obtain ⟨O2, hO⟩ : ∃ O_, O_ = w7.heap.size := ⟨_, rfl⟩
    have HOO2 : Hid (w7.heap.size = O2) := hO.symm
    clear hO
    go_wp2_with (first | (refine wpList_load_ipr (.tmp 9) rfl O1 V x1 rfl H8.out.2.2.1 rfl ?_) | (refine wpList_bpf4 (.tmp 35) (.tmp 36) rfl V x1 n rfl rfl rfl ?_) | (refine wpList_store_pfx (.tmp 11) (.tmp 37) rfl rfl w7.heap.size pz ⟨V, x1, n⟩ rfl rfl (pfx_new w7 pz) rfl ?_))
    intro w9 hRE kE
    rw [HOO2.out] at hRE kE ⊢
    have bN : Below w7.heap.size w7 w9 := ((Below.refl _ _).alloc (Nat.le_refl _) _).trans (kE.below (fun q h => by have h' : q = O2 := h; have := HOO2.out; omega) (by rw [World.size_alloc]; omega))
    have H10 : Hid (IprAt w9 B V x ∧ IprAt w9 D U y ∧ IprAt w9 O1 V x1 ∧ PfxAt w9 O2 ⟨V, x1, n⟩ ∧ Below w.heap.size w w9) := ⟨H8.out.1.below bN, H8.out.2.1.below bN, H8.out.2.2.1.below bN, hRE, H8.out.2.2.2.trans (bN.mono H8.out.2.2.2.size)⟩
    clear hRE kE bN
    go_wp2_with (first | (refine wpList_load_pfx (.tmp 11) rfl O2 ⟨V, x1, n⟩ rfl H10.out.2.2.2.1 rfl ?_))
    refine (vpref_any ⟨V, x1, n⟩ w9 HX1L.out).mono ?_
    rintro e w11 ⟨rfl, hb⟩
    have H12 : Hid (IprAt w11 B V x ∧ IprAt w11 D U y ∧ IprAt w11 O1 V x1 ∧ PfxAt w11 O2 ⟨V, x1, n⟩ ∧ Below w.heap.size w w11) := ⟨H10.out.1.below hb, H10.out.2.1.below hb, H10.out.2.2.1.below hb, H10.out.2.2.2.1.below hb, H10.out.2.2.2.2.trans (hb.mono H10.out.2.2.2.2.size)⟩
    clear hb
    rw [HCS.out.1]
    go_wp2_with fail
    refine (num4_any _ w11).mono ?_
    rintro e wz ⟨rfl, rfl⟩
    go_wp2_with (first | (refine wpList_load_pfx (.tmp 11) rfl O2 ⟨V, x1, n⟩ rfl H12.out.2.2.2.1 rfl ?_) | (refine wpList_load_ipr (.tmp 4) rfl B V x rfl H12.out.1 rfl ?_))
    refine (contains_any ⟨V, x1, n⟩ V x w11 HX1L.out HX.out).mono ?_
    rintro e w13 ⟨rfl, hb⟩
    have H14 : Hid (IprAt w13 B V x ∧ IprAt w13 D U y ∧ IprAt w13 O1 V x1 ∧ PfxAt w13 O2 ⟨V, x1, n⟩ ∧ Below w.heap.size w w13) := ⟨H12.out.1.below hb, H12.out.2.1.below hb, H12.out.2.2.1.below hb, H12.out.2.2.2.1.below hb, H12.out.2.2.2.2.trans (hb.mono H12.out.2.2.2.2.size)⟩
    clear hb
    rw [HCS.out.2.1]
    go_wp2_with (first | (refine wpList_load_pfx (.tmp 11) rfl O2 ⟨V, x1, n⟩ rfl H14.out.2.2.2.1 rfl ?_) | (refine wpList_load_ipr (.tmp 9) rfl O1 V x1 rfl H14.out.2.2.1 rfl ?_))
    refine (contains_any ⟨V, x1, n⟩ V x1 w13 HX1L.out HX1L.out).mono ?_
    rintro e w15 ⟨rfl, hb⟩
    have H16 : Hid (IprAt w15 B V x ∧ IprAt w15 D U y ∧ IprAt w15 O1 V x1 ∧ PfxAt w15 O2 ⟨V, x1, n⟩ ∧ Below w.heap.size w w15) := ⟨H14.out.1.below hb, H14.out.2.1.below hb, H14.out.2.2.1.below hb, H14.out.2.2.2.1.below hb, H14.out.2.2.2.2.trans (hb.mono H14.out.2.2.2.2.size)⟩
    clear hb
    rw [HCS.out.2.2]
    go_wp2_with (first | (refine wpList_load_ipr (.tmp 5) rfl D U y rfl H16.out.2.1 rfl ?_))
    refine (mask_any U y n w15 HY.out).mono ?_
    rintro e w17 ⟨rfl, hb⟩
    have H18 : Hid (IprAt w17 B V x ∧ IprAt w17 D U y ∧ IprAt w17 O1 V x1 ∧ PfxAt w17 O2 ⟨V, x1, n⟩ ∧ Below w.heap.size w w17) := ⟨H16.out.1.below hb, H16.out.2.1.below hb, H16.out.2.2.1.below hb, H16.out.2.2.2.1.below hb, H16.out.2.2.2.2.trans (hb.mono H16.out.2.2.2.2.size)⟩
    clear hb
    have HCM : Hid (conB ⟨V, x1, n⟩ U y = (mkE U y n == 0 && U == V && same16 (mkX U y n) x1)) := by rw [HX1.out]; exact con_mask HE.out
    obtain ⟨f0, hf0⟩ : ∃ f0, f0 = mkE U y n := ⟨_, rfl⟩
    have HF0 : Hid (f0 = mkE U y n) := hf0
    obtain ⟨U2, hU2⟩ : ∃ U2, U2 = mkV U y n := ⟨_, rfl⟩
    have HU2 : Hid (U2 = mkV U y n) := hU2
    obtain ⟨y2, hy2⟩ : ∃ y2, y2 = mkX U y n := ⟨_, rfl⟩
    have HY2 : Hid (y2 = mkX U y n) := hy2
    rw [← hf0, ← hU2, ← hy2]
    clear hf0 hU2 hy2
    obtain ⟨O3, hO⟩ : ∃ O_, O_ = w17.heap.size := ⟨_, rfl⟩
    have HOO3 : Hid (w17.heap.size = O3) := hO.symm
    clear hO
    go_wp2_with (first | (refine wpList_store_ipr (.tmp 12) (.tmp 58) rfl rfl w17.heap.size 0 (fun _ => 0) U2 y2 rfl rfl (ipr_new w17 0 (fun _ => 0)) rfl ?_))
    intro w19 hRE kE
    rw [HOO3.out] at hRE kE ⊢
    have bN : Below w17.heap.size w17 w19 := ((Below.refl _ _).alloc (Nat.le_refl _) _).trans (kE.below (fun q h => by have h' : q = O3 := h; have := HOO3.out; omega) (by rw [World.size_alloc]; omega))
    have H20 : Hid (IprAt w19 B V x ∧ IprAt w19 D U y ∧ IprAt w19 O1 V x1 ∧ PfxAt w19 O2 ⟨V, x1, n⟩ ∧ IprAt w19 O3 U2 y2 ∧ Below w.heap.size w w19) := ⟨H18.out.1.below bN, H18.out.2.1.below bN, H18.out.2.2.1.below bN, H18.out.2.2.2.1.below bN, hRE, H18.out.2.2.2.2.trans (bN.mono H18.out.2.2.2.2.size)⟩
    clear hRE kE bN
    go_wp2_with fail
    refine (num4_any _ w19).mono ?_
    rintro e wz ⟨rfl, rfl⟩
    by_cases hf : f0 = 0
    · have q2 : (((f0 : Nat) : Int) == 0) = true := by simp [hf]
      have hU : U2 = U := by rw [HU2.out]; exact (mk_at (by rw [← HF0.out]; exact hf)).2
      have HU : Hid (U2 = U) := hU
      have kU : w19.cell? ⟨D, 0, none⟩ = some (.int .i64 U) := H20.out.2.1.cell 0
      have kV : w19.cell? ⟨B, 0, none⟩ = some (.int .i64 V) := H20.out.1.cell 0
      by_cases huv : U = V
      · have q3 : (U == V) = true := by simp [huv]
        obtain ⟨bs, hbs⟩ : ∃ bs, bs = same16 y2 x1 := ⟨_, rfl⟩
        have HBS : Hid (same16 y2 x1 = bs) := hbs.symm
        have HUV : Hid (U2 = V) := hU.trans huv
        have HB : Hid (conB ⟨V, x1, n⟩ U y = bs) := by show _ = _; rw [HCM.out, ← HF0.out, hf, q3, ← HY2.out, ← hbs]; simp
        have HIN : Hid ((U2 == V && same16 y2 x1) = bs) := by show _ = _; rw [HUV.out, HBS.out]; simp
        clear hf hU huv hbs
        go_upto_region 9 with (first | (refine wpList_eql_ip (.tmp 71) (.tmp 72) rfl U2 V y2 x1 rfl rfl rfl ?_) | (refine wpList_load_ipr (.tmp 12) rfl O3 U2 y2 rfl H20.out.2.2.2.2.1 rfl ?_) | (refine wpList_load_ipr (.tmp 9) rfl O1 V x1 rfl H20.out.2.2.1 rfl ?_))
        rw [HIN.out]
        clear HBS HIN HUV
        cases bs with
        | true =>
          go_wp2_with (first | (refine wpList_load_pfx (.tmp 11) rfl O2 ⟨V, x1, n⟩ rfl H20.out.2.2.2.1 rfl ?_) | (refine wpList_load_ipr (.tmp 5) rfl D U y rfl H20.out.2.1 rfl ?_))
          refine (contains_any ⟨V, x1, n⟩ U y w19 HX1L.out HY.out).mono ?_
          rintro e w21 ⟨rfl, hb⟩
          have H22 : Hid (IprAt w21 B V x ∧ IprAt w21 D U y ∧ IprAt w21 O1 V x1 ∧ PfxAt w21 O2 ⟨V, x1, n⟩ ∧ IprAt w21 O3 U2 y2 ∧ Below w.heap.size w w21) := ⟨H20.out.1.below hb, H20.out.2.1.below hb, H20.out.2.2.1.below hb, H20.out.2.2.2.1.below hb, H20.out.2.2.2.2.1.below hb, H20.out.2.2.2.2.2.trans (hb.mono H20.out.2.2.2.2.2.size)⟩
          clear hb
          rw [HB.out]
          go_wp2_with (first | (refine wpList_load_ipr (.tmp 9) rfl O1 V x1 rfl H22.out.2.2.1 rfl ?_))
          refine (mask_any V x1 m w21 HX1L.out).mono ?_
          rintro e w23 ⟨rfl, hb⟩
          have H24 : Hid (IprAt w23 B V x ∧ IprAt w23 D U y ∧ IprAt w23 O1 V x1 ∧ PfxAt w23 O2 ⟨V, x1, n⟩ ∧ IprAt w23 O3 U2 y2 ∧ Below w.heap.size w w23) := ⟨H22.out.1.below hb, H22.out.2.1.below hb, H22.out.2.2.1.below hb, H22.out.2.2.2.1.below hb, H22.out.2.2.2.2.1.below hb, H22.out.2.2.2.2.2.trans (hb.mono H22.out.2.2.2.2.2.size)⟩
          clear hb
          by_cases hg : mkE V x1 m = 0
          · have HG : Hid (mkE V x1 m = 0) := hg
            have HT : Hid (mkE V x (min n m) = 0 ∧ same16 (mkX V x1 m) (mkX V x (min n m)) = true) := by have := hg; rw [HX1.out] at this ⊢; exact mask_two HE.out this
            rw [(mk_at hg).2, hg]
            obtain ⟨x2, hx2⟩ : ∃ x2, x2 = mkX V x1 m := ⟨_, rfl⟩
            have HX2 : Hid (x2 = mkX V x1 m) := hx2
            rw [← hx2]
            clear hg hx2
            obtain ⟨O4, hO⟩ : ∃ O_, O_ = w23.heap.size := ⟨_, rfl⟩
            have HOO4 : Hid (w23.heap.size = O4) := hO.symm
            clear hO
            go_wp2_with (first | (refine wpList_store_ipr (.tmp 15) (.tmp 84) rfl rfl w23.heap.size 0 (fun _ => 0) V x2 rfl rfl (ipr_new w23 0 (fun _ => 0)) rfl ?_))
            intro w25 hRE kE
            rw [HOO4.out] at hRE kE ⊢
            have bN : Below w23.heap.size w23 w25 := ((Below.refl _ _).alloc (Nat.le_refl _) _).trans (kE.below (fun q h => by have h' : q = O4 := h; have := HOO4.out; omega) (by rw [World.size_alloc]; omega))
            have H26 : Hid (IprAt w25 B V x ∧ IprAt w25 D U y ∧ IprAt w25 O1 V x1 ∧ PfxAt w25 O2 ⟨V, x1, n⟩ ∧ IprAt w25 O3 U2 y2 ∧ IprAt w25 O4 V x2 ∧ Below w.heap.size w w25) := ⟨H24.out.1.below bN, H24.out.2.1.below bN, H24.out.2.2.1.below bN, H24.out.2.2.2.1.below bN, H24.out.2.2.2.2.1.below bN, hRE, H24.out.2.2.2.2.2.trans (bN.mono H24.out.2.2.2.2.2.size)⟩
            clear hRE kE bN
            go_wp2_with fail
            refine (num4_any _ w25).mono ?_
            rintro e wz ⟨rfl, rfl⟩
            go_wp2_with (first | (refine wpList_load_ipr (.tmp 4) rfl B V x rfl H26.out.1 rfl ?_))
            refine (mask_any V x (min n m) w25 HX.out).mono ?_
            rintro e w27 ⟨rfl, hb⟩
            have H28 : Hid (IprAt w27 B V x ∧ IprAt w27 D U y ∧ IprAt w27 O1 V x1 ∧ PfxAt w27 O2 ⟨V, x1, n⟩ ∧ IprAt w27 O3 U2 y2 ∧ IprAt w27 O4 V x2 ∧ Below w.heap.size w w27) := ⟨H26.out.1.below hb, H26.out.2.1.below hb, H26.out.2.2.1.below hb, H26.out.2.2.2.1.below hb, H26.out.2.2.2.2.1.below hb, H26.out.2.2.2.2.2.1.below hb, H26.out.2.2.2.2.2.2.trans (hb.mono H26.out.2.2.2.2.2.2.size)⟩
            clear hb
            rw [(mk_at HT.out.1).2, HT.out.1]
            obtain ⟨x3, hx3⟩ : ∃ x3, x3 = mkX V x (min n m) := ⟨_, rfl⟩
            have HX3 : Hid (x3 = mkX V x (min n m)) := hx3
            have HX3L : Hid (∀ i, i < 16 → x3 i < 256) := by show ∀ i, i < 16 → x3 i < 256; rw [hx3]; exact mkX_lt HX.out
            have HSM : Hid (same16 x2 x3 = true) := by show _ = _; rw [HX2.out, hx3]; exact HT.out.2
            have HC3 : Hid (conB ⟨V, x3, min n m⟩ V x = true) := by show _ = _; rw [hx3]; exact con_self HT.out.1
            have HC4 : Hid (conB ⟨V, x3, min n m⟩ U y = true) := by
              show _ = _
              have h1 := HB.out
              have h2 := HG.out
              rw [HX1.out] at h1 h2
              rw [hx3]
              exact con_in HE.out h2 h1
            rw [← hx3]
            clear hx3
            obtain ⟨O5, hO⟩ : ∃ O_, O_ = w27.heap.size := ⟨_, rfl⟩
            have HOO5 : Hid (w27.heap.size = O5) := hO.symm
            clear hO
            go_wp2_with (first | (refine wpList_store_ipr (.tmp 17) (.tmp 96) rfl rfl w27.heap.size 0 (fun _ => 0) V x3 rfl rfl (ipr_new w27 0 (fun _ => 0)) rfl ?_))
            intro w29 hRE kE
            rw [HOO5.out] at hRE kE ⊢
            have bN : Below w27.heap.size w27 w29 := ((Below.refl _ _).alloc (Nat.le_refl _) _).trans (kE.below (fun q h => by have h' : q = O5 := h; have := HOO5.out; omega) (by rw [World.size_alloc]; omega))
            have H30 : Hid (IprAt w29 B V x ∧ IprAt w29 D U y ∧ IprAt w29 O1 V x1 ∧ PfxAt w29 O2 ⟨V, x1, n⟩ ∧ IprAt w29 O3 U2 y2 ∧ IprAt w29 O4 V x2 ∧ IprAt w29 O5 V x3 ∧ Below w.heap.size w w29) := ⟨H28.out.1.below bN, H28.out.2.1.below bN, H28.out.2.2.1.below bN, H28.out.2.2.2.1.below bN, H28.out.2.2.2.2.1.below bN, H28.out.2.2.2.2.2.1.below bN, hRE, H28.out.2.2.2.2.2.2.trans (bN.mono H28.out.2.2.2.2.2.2.size)⟩
            clear hRE kE bN
            obtain ⟨O6, hO⟩ : ∃ O_, O_ = w29.heap.size := ⟨_, rfl⟩
            have HOO6 : Hid (w29.heap.size = O6) := hO.symm
            clear hO
            go_wp2_with (first | (refine wpList_load_ipr (.tmp 17) rfl O5 V x3 rfl H30.out.2.2.2.2.2.2.1 rfl ?_) | (refine wpList_bpf4 (.tmp 98) (.tmp 101) rfl V x3 (min n m) rfl rfl rfl ?_) | (refine wpList_store_pfx (.tmp 19) (.tmp 102) rfl rfl w29.heap.size pz ⟨V, x3, min n m⟩ rfl rfl (pfx_new w29 pz) rfl ?_))
            intro w31 hRE kE
            rw [HOO6.out] at hRE kE ⊢
            have bN : Below w29.heap.size w29 w31 := ((Below.refl _ _).alloc (Nat.le_refl _) _).trans (kE.below (fun q h => by have h' : q = O6 := h; have := HOO6.out; omega) (by rw [World.size_alloc]; omega))
            have H32 : Hid (IprAt w31 B V x ∧ IprAt w31 D U y ∧ IprAt w31 O1 V x1 ∧ PfxAt w31 O2 ⟨V, x1, n⟩ ∧ IprAt w31 O3 U2 y2 ∧ IprAt w31 O4 V x2 ∧ IprAt w31 O5 V x3 ∧ PfxAt w31 O6 ⟨V, x3, min n m⟩ ∧ Below w.heap.size w w31) := ⟨H30.out.1.below bN, H30.out.2.1.below bN, H30.out.2.2.1.below bN, H30.out.2.2.2.1.below bN, H30.out.2.2.2.2.1.below bN, H30.out.2.2.2.2.2.1.below bN, H30.out.2.2.2.2.2.2.1.below bN, hRE, H30.out.2.2.2.2.2.2.2.trans (bN.mono H30.out.2.2.2.2.2.2.2.size)⟩
            clear hRE kE bN
            go_wp2_with fail
            refine (started_any w31 (HPW.out.below H32.out.2.2.2.2.2.2.2.2) (HSP.out.old H32.out.2.2.2.2.2.2.2.2)).mono ?_
            rintro e w33 ⟨rfl, hb⟩
            have H34 : Hid (IprAt w33 B V x ∧ IprAt w33 D U y ∧ IprAt w33 O1 V x1 ∧ PfxAt w33 O2 ⟨V, x1, n⟩ ∧ IprAt w33 O3 U2 y2 ∧ IprAt w33 O4 V x2 ∧ IprAt w33 O5 V x3 ∧ PfxAt w33 O6 ⟨V, x3, min n m⟩ ∧ Below w.heap.size w w33) := ⟨H32.out.1.below hb, H32.out.2.1.below hb, H32.out.2.2.1.below hb, H32.out.2.2.2.1.below hb, H32.out.2.2.2.2.1.below hb, H32.out.2.2.2.2.2.1.below hb, H32.out.2.2.2.2.2.2.1.below hb, H32.out.2.2.2.2.2.2.2.1.below hb, H32.out.2.2.2.2.2.2.2.2.trans (hb.mono H32.out.2.2.2.2.2.2.2.2.size)⟩
            clear hb
            go_wp2_with fail
            refine (num4_any _ w33).mono ?_
            rintro e wz ⟨rfl, rfl⟩
            go_wp2_with (first | (refine wpList_load_ipr (.tmp 15) rfl O4 V x2 rfl H34.out.2.2.2.2.2.1 rfl ?_) | (refine wpList_load_ipr (.tmp 17) rfl O5 V x3 rfl H34.out.2.2.2.2.2.2.1 rfl ?_) | (refine wpList_eql_ipb (.tmp 110) (.tmp 111) rfl V V x2 x3 rfl rfl true (by simp [HSM.out]) rfl ?_) | (refine wpList_load_pfx (.tmp 19) rfl O6 ⟨V, x3, min n m⟩ rfl H34.out.2.2.2.2.2.2.2.1 rfl ?_) | (refine wpList_load_ipr (.tmp 4) rfl B V x rfl H34.out.1 rfl ?_))
            refine (contains_any ⟨V, x3, min n m⟩ V x w33 HX3L.out HX.out).mono ?_
            rintro e w35 ⟨rfl, hb⟩
            have H36 : Hid (IprAt w35 B V x ∧ IprAt w35 D U y ∧ IprAt w35 O1 V x1 ∧ PfxAt w35 O2 ⟨V, x1, n⟩ ∧ IprAt w35 O3 U2 y2 ∧ IprAt w35 O4 V x2 ∧ IprAt w35 O5 V x3 ∧ PfxAt w35 O6 ⟨V, x3, min n m⟩ ∧ Below w.heap.size w w35) := ⟨H34.out.1.below hb, H34.out.2.1.below hb, H34.out.2.2.1.below hb, H34.out.2.2.2.1.below hb, H34.out.2.2.2.2.1.below hb, H34.out.2.2.2.2.2.1.below hb, H34.out.2.2.2.2.2.2.1.below hb, H34.out.2.2.2.2.2.2.2.1.below hb, H34.out.2.2.2.2.2.2.2.2.trans (hb.mono H34.out.2.2.2.2.2.2.2.2.size)⟩
            clear hb
            rw [HC3.out]
            go_wp2_with (first | (refine wpList_load_pfx (.tmp 19) rfl O6 ⟨V, x3, min n m⟩ rfl H36.out.2.2.2.2.2.2.2.1 rfl ?_) | (refine wpList_load_ipr (.tmp 5) rfl D U y rfl H36.out.2.1 rfl ?_))
            refine (contains_any ⟨V, x3, min n m⟩ U y w35 HX3L.out HY.out).mono ?_
            rintro e w37 ⟨rfl, hb⟩
            have H38 : Hid (IprAt w37 B V x ∧ IprAt w37 D U y ∧ IprAt w37 O1 V x1 ∧ PfxAt w37 O2 ⟨V, x1, n⟩ ∧ IprAt w37 O3 U2 y2 ∧ IprAt w37 O4 V x2 ∧ IprAt w37 O5 V x3 ∧ PfxAt w37 O6 ⟨V, x3, min n m⟩ ∧ Below w.heap.size w w37) := ⟨H36.out.1.below hb, H36.out.2.1.below hb, H36.out.2.2.1.below hb, H36.out.2.2.2.1.below hb, H36.out.2.2.2.2.1.below hb, H36.out.2.2.2.2.2.1.below hb, H36.out.2.2.2.2.2.2.1.below hb, H36.out.2.2.2.2.2.2.2.1.below hb, H36.out.2.2.2.2.2.2.2.2.trans (hb.mono H36.out.2.2.2.2.2.2.2.2.size)⟩
            clear hb
            rw [HC4.out]
            go_wp2
            go_ret
            exact ⟨rfl, H38.out.2.2.2.2.2.2.2.2⟩
          · obtain ⟨g0, hg0⟩ : ∃ g0, g0 = mkE V x1 m := ⟨_, rfl⟩
            have q1 : (((g0 : Nat) : Int) != 0) = true := by rw [hg0]; simp [hg]
            obtain ⟨V4, hV4⟩ : ∃ V4, V4 = mkV V x1 m := ⟨_, rfl⟩
            obtain ⟨x4, hx4⟩ : ∃ x4, x4 = mkX V x1 m := ⟨_, rfl⟩
            rw [← hg0, ← hV4, ← hx4]
            clear hg hg0 hV4 hx4
            obtain ⟨O4, hO⟩ : ∃ O_, O_ = w23.heap.size := ⟨_, rfl⟩
            have HOO4 : Hid (w23.heap.size = O4) := hO.symm
            clear hO
            go_wp2_with (first | (refine wpList_store_ipr (.tmp 15) (.tmp 84) rfl rfl w23.heap.size 0 (fun _ => 0) V4 x4 rfl rfl (ipr_new w23 0 (fun _ => 0)) rfl ?_))
            intro w39 hRE kE
            rw [HOO4.out] at hRE kE ⊢
            have bN : Below w23.heap.size w23 w39 := ((Below.refl _ _).alloc (Nat.le_refl _) _).trans (kE.below (fun q h => by have h' : q = O4 := h; have := HOO4.out; omega) (by rw [World.size_alloc]; omega))
            have H40 : Hid (IprAt w39 B V x ∧ IprAt w39 D U y ∧ IprAt w39 O1 V x1 ∧ PfxAt w39 O2 ⟨V, x1, n⟩ ∧ IprAt w39 O3 U2 y2 ∧ IprAt w39 O4 V4 x4 ∧ Below w.heap.size w w39) := ⟨H24.out.1.below bN, H24.out.2.1.below bN, H24.out.2.2.1.below bN, H24.out.2.2.2.1.below bN, H24.out.2.2.2.2.1.below bN, hRE, H24.out.2.2.2.2.2.trans (bN.mono H24.out.2.2.2.2.2.size)⟩
            clear hRE kE bN
            go_wp2_with fail
            refine (num4_any _ w39).mono ?_
            rintro e wz ⟨rfl, rfl⟩
            go_wp2_with fail
            refine (started_any w39 (HPW.out.below H40.out.2.2.2.2.2.2) (HSP.out.old H40.out.2.2.2.2.2.2)).mono ?_
            rintro e w41 ⟨rfl, hb⟩
            have H42 : Hid (IprAt w41 B V x ∧ IprAt w41 D U y ∧ IprAt w41 O1 V x1 ∧ PfxAt w41 O2 ⟨V, x1, n⟩ ∧ IprAt w41 O3 U2 y2 ∧ IprAt w41 O4 V4 x4 ∧ Below w.heap.size w w41) := ⟨H40.out.1.below hb, H40.out.2.1.below hb, H40.out.2.2.1.below hb, H40.out.2.2.2.1.below hb, H40.out.2.2.2.2.1.below hb, H40.out.2.2.2.2.2.1.below hb, H40.out.2.2.2.2.2.2.trans (hb.mono H40.out.2.2.2.2.2.2.size)⟩
            clear hb
            go_wp2
            go_ret
            exact ⟨rfl, H42.out.2.2.2.2.2.2⟩
        | false =>
          go_wp2_with (first | (refine wpList_load_pfx (.tmp 11) rfl O2 ⟨V, x1, n⟩ rfl H20.out.2.2.2.1 rfl ?_) | (refine wpList_load_ipr (.tmp 5) rfl D U y rfl H20.out.2.1 rfl ?_))
          refine (contains_any ⟨V, x1, n⟩ U y w19 HX1L.out HY.out).mono ?_
          rintro e w21 ⟨rfl, hb⟩
          have H22 : Hid (IprAt w21 B V x ∧ IprAt w21 D U y ∧ IprAt w21 O1 V x1 ∧ PfxAt w21 O2 ⟨V, x1, n⟩ ∧ IprAt w21 O3 U2 y2 ∧ Below w.heap.size w w21) := ⟨H20.out.1.below hb, H20.out.2.1.below hb, H20.out.2.2.1.below hb, H20.out.2.2.2.1.below hb, H20.out.2.2.2.2.1.below hb, H20.out.2.2.2.2.2.trans (hb.mono H20.out.2.2.2.2.2.size)⟩
          clear hb
          rw [HB.out]
          go_wp2_with (first | (refine wpList_load_ipr (.tmp 9) rfl O1 V x1 rfl H22.out.2.2.1 rfl ?_))
          refine (mask_any V x1 m w21 HX1L.out).mono ?_
          rintro e w23 ⟨rfl, hb⟩
          have H24 : Hid (IprAt w23 B V x ∧ IprAt w23 D U y ∧ IprAt w23 O1 V x1 ∧ PfxAt w23 O2 ⟨V, x1, n⟩ ∧ IprAt w23 O3 U2 y2 ∧ Below w.heap.size w w23) := ⟨H22.out.1.below hb, H22.out.2.1.below hb, H22.out.2.2.1.below hb, H22.out.2.2.2.1.below hb, H22.out.2.2.2.2.1.below hb, H22.out.2.2.2.2.2.trans (hb.mono H22.out.2.2.2.2.2.size)⟩
          clear hb
          by_cases hg : mkE V x1 m = 0
          · have HG : Hid (mkE V x1 m = 0) := hg
            have HT : Hid (mkE V x (min n m) = 0 ∧ same16 (mkX V x1 m) (mkX V x (min n m)) = true) := by have := hg; rw [HX1.out] at this ⊢; exact mask_two HE.out this
            rw [(mk_at hg).2, hg]
            obtain ⟨x2, hx2⟩ : ∃ x2, x2 = mkX V x1 m := ⟨_, rfl⟩
            have HX2 : Hid (x2 = mkX V x1 m) := hx2
            rw [← hx2]
            clear hg hx2
            obtain ⟨O4, hO⟩ : ∃ O_, O_ = w23.heap.size := ⟨_, rfl⟩
            have HOO4 : Hid (w23.heap.size = O4) := hO.symm
            clear hO
            go_wp2_with (first | (refine wpList_store_ipr (.tmp 15) (.tmp 84) rfl rfl w23.heap.size 0 (fun _ => 0) V x2 rfl rfl (ipr_new w23 0 (fun _ => 0)) rfl ?_))
            intro w25 hRE kE
            rw [HOO4.out] at hRE kE ⊢
            have bN : Below w23.heap.size w23 w25 := ((Below.refl _ _).alloc (Nat.le_refl _) _).trans (kE.below (fun q h => by have h' : q = O4 := h; have := HOO4.out; omega) (by rw [World.size_alloc]; omega))
            have H26 : Hid (IprAt w25 B V x ∧ IprAt w25 D U y ∧ IprAt w25 O1 V x1 ∧ PfxAt w25 O2 ⟨V, x1, n⟩ ∧ IprAt w25 O3 U2 y2 ∧ IprAt w25 O4 V x2 ∧ Below w.heap.size w w25) := ⟨H24.out.1.below bN, H24.out.2.1.below bN, H24.out.2.2.1.below bN, H24.out.2.2.2.1.below bN, H24.out.2.2.2.2.1.below bN, hRE, H24.out.2.2.2.2.2.trans (bN.mono H24.out.2.2.2.2.2.size)⟩
            clear hRE kE bN
            go_wp2_with fail
            refine (num4_any _ w25).mono ?_
            rintro e wz ⟨rfl, rfl⟩
            go_wp2_with (first | (refine wpList_load_ipr (.tmp 4) rfl B V x rfl H26.out.1 rfl ?_))
            refine (mask_any V x (min n m) w25 HX.out).mono ?_
            rintro e w27 ⟨rfl, hb⟩
            have H28 : Hid (IprAt w27 B V x ∧ IprAt w27 D U y ∧ IprAt w27 O1 V x1 ∧ PfxAt w27 O2 ⟨V, x1, n⟩ ∧ IprAt w27 O3 U2 y2 ∧ IprAt w27 O4 V x2 ∧ Below w.heap.size w w27) := ⟨H26.out.1.below hb, H26.out.2.1.below hb, H26.out.2.2.1.below hb, H26.out.2.2.2.1.below hb, H26.out.2.2.2.2.1.below hb, H26.out.2.2.2.2.2.1.below hb, H26.out.2.2.2.2.2.2.trans (hb.mono H26.out.2.2.2.2.2.2.size)⟩
            clear hb
            rw [(mk_at HT.out.1).2, HT.out.1]
            obtain ⟨x3, hx3⟩ : ∃ x3, x3 = mkX V x (min n m) := ⟨_, rfl⟩
            have HX3 : Hid (x3 = mkX V x (min n m)) := hx3
            have HX3L : Hid (∀ i, i < 16 → x3 i < 256) := by show ∀ i, i < 16 → x3 i < 256; rw [hx3]; exact mkX_lt HX.out
            have HSM : Hid (same16 x2 x3 = true) := by show _ = _; rw [HX2.out, hx3]; exact HT.out.2
            have HC3 : Hid (conB ⟨V, x3, min n m⟩ V x = true) := by show _ = _; rw [hx3]; exact con_self HT.out.1
            rw [← hx3]
            clear hx3
            obtain ⟨O5, hO⟩ : ∃ O_, O_ = w27.heap.size := ⟨_, rfl⟩
            have HOO5 : Hid (w27.heap.size = O5) := hO.symm
            clear hO
            go_wp2_with (first | (refine wpList_store_ipr (.tmp 17) (.tmp 96) rfl rfl w27.heap.size 0 (fun _ => 0) V x3 rfl rfl (ipr_new w27 0 (fun _ => 0)) rfl ?_))
            intro w29 hRE kE
            rw [HOO5.out] at hRE kE ⊢
            have bN : Below w27.heap.size w27 w29 := ((Below.refl _ _).alloc (Nat.le_refl _) _).trans (kE.below (fun q h => by have h' : q = O5 := h; have := HOO5.out; omega) (by rw [World.size_alloc]; omega))
            have H30 : Hid (IprAt w29 B V x ∧ IprAt w29 D U y ∧ IprAt w29 O1 V x1 ∧ PfxAt w29 O2 ⟨V, x1, n⟩ ∧ IprAt w29 O3 U2 y2 ∧ IprAt w29 O4 V x2 ∧ IprAt w29 O5 V x3 ∧ Below w.heap.size w w29) := ⟨H28.out.1.below bN, H28.out.2.1.below bN, H28.out.2.2.1.below bN, H28.out.2.2.2.1.below bN, H28.out.2.2.2.2.1.below bN, H28.out.2.2.2.2.2.1.below bN, hRE, H28.out.2.2.2.2.2.2.trans (bN.mono H28.out.2.2.2.2.2.2.size)⟩
            clear hRE kE bN
            obtain ⟨O6, hO⟩ : ∃ O_, O_ = w29.heap.size := ⟨_, rfl⟩
            have HOO6 : Hid (w29.heap.size = O6) := hO.symm
            clear hO
            go_wp2_with (first | (refine wpList_load_ipr (.tmp 17) rfl O5 V x3 rfl H30.out.2.2.2.2.2.2.1 rfl ?_) | (refine wpList_bpf4 (.tmp 98) (.tmp 101) rfl V x3 (min n m) rfl rfl rfl ?_) | (refine wpList_store_pfx (.tmp 19) (.tmp 102) rfl rfl w29.heap.size pz ⟨V, x3, min n m⟩ rfl rfl (pfx_new w29 pz) rfl ?_))
            intro w31 hRE kE
            rw [HOO6.out] at hRE kE ⊢
            have bN : Below w29.heap.size w29 w31 := ((Below.refl _ _).alloc (Nat.le_refl _) _).trans (kE.below (fun q h => by have h' : q = O6 := h; have := HOO6.out; omega) (by rw [World.size_alloc]; omega))
            have H32 : Hid (IprAt w31 B V x ∧ IprAt w31 D U y ∧ IprAt w31 O1 V x1 ∧ PfxAt w31 O2 ⟨V, x1, n⟩ ∧ IprAt w31 O3 U2 y2 ∧ IprAt w31 O4 V x2 ∧ IprAt w31 O5 V x3 ∧ PfxAt w31 O6 ⟨V, x3, min n m⟩ ∧ Below w.heap.size w w31) := ⟨H30.out.1.below bN, H30.out.2.1.below bN, H30.out.2.2.1.below bN, H30.out.2.2.2.1.below bN, H30.out.2.2.2.2.1.below bN, H30.out.2.2.2.2.2.1.below bN, H30.out.2.2.2.2.2.2.1.below bN, hRE, H30.out.2.2.2.2.2.2.2.trans (bN.mono H30.out.2.2.2.2.2.2.2.size)⟩
            clear hRE kE bN
            go_wp2_with fail
            refine (started_any w31 (HPW.out.below H32.out.2.2.2.2.2.2.2.2) (HSP.out.old H32.out.2.2.2.2.2.2.2.2)).mono ?_
            rintro e w33 ⟨rfl, hb⟩
            have H34 : Hid (IprAt w33 B V x ∧ IprAt w33 D U y ∧ IprAt w33 O1 V x1 ∧ PfxAt w33 O2 ⟨V, x1, n⟩ ∧ IprAt w33 O3 U2 y2 ∧ IprAt w33 O4 V x2 ∧ IprAt w33 O5 V x3 ∧ PfxAt w33 O6 ⟨V, x3, min n m⟩ ∧ Below w.heap.size w w33) := ⟨H32.out.1.below hb, H32.out.2.1.below hb, H32.out.2.2.1.below hb, H32.out.2.2.2.1.below hb, H32.out.2.2.2.2.1.below hb, H32.out.2.2.2.2.2.1.below hb, H32.out.2.2.2.2.2.2.1.below hb, H32.out.2.2.2.2.2.2.2.1.below hb, H32.out.2.2.2.2.2.2.2.2.trans (hb.mono H32.out.2.2.2.2.2.2.2.2.size)⟩
            clear hb
            go_wp2_with fail
            refine (num4_any _ w33).mono ?_
            rintro e wz ⟨rfl, rfl⟩
            go_wp2_with (first | (refine wpList_load_ipr (.tmp 15) rfl O4 V x2 rfl H34.out.2.2.2.2.2.1 rfl ?_) | (refine wpList_load_ipr (.tmp 17) rfl O5 V x3 rfl H34.out.2.2.2.2.2.2.1 rfl ?_) | (refine wpList_eql_ipb (.tmp 110) (.tmp 111) rfl V V x2 x3 rfl rfl true (by simp [HSM.out]) rfl ?_) | (refine wpList_load_pfx (.tmp 19) rfl O6 ⟨V, x3, min n m⟩ rfl H34.out.2.2.2.2.2.2.2.1 rfl ?_) | (refine wpList_load_ipr (.tmp 4) rfl B V x rfl H34.out.1 rfl ?_))
            refine (contains_any ⟨V, x3, min n m⟩ V x w33 HX3L.out HX.out).mono ?_
            rintro e w35 ⟨rfl, hb⟩
            have H36 : Hid (IprAt w35 B V x ∧ IprAt w35 D U y ∧ IprAt w35 O1 V x1 ∧ PfxAt w35 O2 ⟨V, x1, n⟩ ∧ IprAt w35 O3 U2 y2 ∧ IprAt w35 O4 V x2 ∧ IprAt w35 O5 V x3 ∧ PfxAt w35 O6 ⟨V, x3, min n m⟩ ∧ Below w.heap.size w w35) := ⟨H34.out.1.below hb, H34.out.2.1.below hb, H34.out.2.2.1.below hb, H34.out.2.2.2.1.below hb, H34.out.2.2.2.2.1.below hb, H34.out.2.2.2.2.2.1.below hb, H34.out.2.2.2.2.2.2.1.below hb, H34.out.2.2.2.2.2.2.2.1.below hb, H34.out.2.2.2.2.2.2.2.2.trans (hb.mono H34.out.2.2.2.2.2.2.2.2.size)⟩
            clear hb
            rw [HC3.out]
            go_wp2
            go_ret
            exact ⟨rfl, H36.out.2.2.2.2.2.2.2.2⟩
          · obtain ⟨g0, hg0⟩ : ∃ g0, g0 = mkE V x1 m := ⟨_, rfl⟩
            have q1 : (((g0 : Nat) : Int) != 0) = true := by rw [hg0]; simp [hg]
            obtain ⟨V4, hV4⟩ : ∃ V4, V4 = mkV V x1 m := ⟨_, rfl⟩
            obtain ⟨x4, hx4⟩ : ∃ x4, x4 = mkX V x1 m := ⟨_, rfl⟩
            rw [← hg0, ← hV4, ← hx4]
            clear hg hg0 hV4 hx4
            obtain ⟨O4, hO⟩ : ∃ O_, O_ = w23.heap.size := ⟨_, rfl⟩
            have HOO4 : Hid (w23.heap.size = O4) := hO.symm
            clear hO
            go_wp2_with (first | (refine wpList_store_ipr (.tmp 15) (.tmp 84) rfl rfl w23.heap.size 0 (fun _ => 0) V4 x4 rfl rfl (ipr_new w23 0 (fun _ => 0)) rfl ?_))
            intro w37 hRE kE
            rw [HOO4.out] at hRE kE ⊢
            have bN : Below w23.heap.size w23 w37 := ((Below.refl _ _).alloc (Nat.le_refl _) _).trans (kE.below (fun q h => by have h' : q = O4 := h; have := HOO4.out; omega) (by rw [World.size_alloc]; omega))
            have H38 : Hid (IprAt w37 B V x ∧ IprAt w37 D U y ∧ IprAt w37 O1 V x1 ∧ PfxAt w37 O2 ⟨V, x1, n⟩ ∧ IprAt w37 O3 U2 y2 ∧ IprAt w37 O4 V4 x4 ∧ Below w.heap.size w w37) := ⟨H24.out.1.below bN, H24.out.2.1.below bN, H24.out.2.2.1.below bN, H24.out.2.2.2.1.below bN, H24.out.2.2.2.2.1.below bN, hRE, H24.out.2.2.2.2.2.trans (bN.mono H24.out.2.2.2.2.2.size)⟩
            clear hRE kE bN
            go_wp2_with fail
            refine (num4_any _ w37).mono ?_
            rintro e wz ⟨rfl, rfl⟩
            go_wp2_with fail
            refine (started_any w37 (HPW.out.below H38.out.2.2.2.2.2.2) (HSP.out.old H38.out.2.2.2.2.2.2)).mono ?_
            rintro e w39 ⟨rfl, hb⟩
            have H40 : Hid (IprAt w39 B V x ∧ IprAt w39 D U y ∧ IprAt w39 O1 V x1 ∧ PfxAt w39 O2 ⟨V, x1, n⟩ ∧ IprAt w39 O3 U2 y2 ∧ IprAt w39 O4 V4 x4 ∧ Below w.heap.size w w39) := ⟨H38.out.1.below hb, H38.out.2.1.below hb, H38.out.2.2.1.below hb, H38.out.2.2.2.1.below hb, H38.out.2.2.2.2.1.below hb, H38.out.2.2.2.2.2.1.below hb, H38.out.2.2.2.2.2.2.trans (hb.mono H38.out.2.2.2.2.2.2.size)⟩
            clear hb
            go_wp2
            go_ret
            exact ⟨rfl, H40.out.2.2.2.2.2.2⟩
      · have q3 : (U == V) = false := by simp [huv]
        have HB : Hid (conB ⟨V, x1, n⟩ U y = false) := by show _ = _; rw [HCM.out, q3]; simp
        clear hf hU huv
        go_wp2_with (first | (refine wpList_load_pfx (.tmp 11) rfl O2 ⟨V, x1, n⟩ rfl H20.out.2.2.2.1 rfl ?_) | (refine wpList_load_ipr (.tmp 5) rfl D U y rfl H20.out.2.1 rfl ?_))
        refine (contains_any ⟨V, x1, n⟩ U y w19 HX1L.out HY.out).mono ?_
        rintro e w21 ⟨rfl, hb⟩
        have H22 : Hid (IprAt w21 B V x ∧ IprAt w21 D U y ∧ IprAt w21 O1 V x1 ∧ PfxAt w21 O2 ⟨V, x1, n⟩ ∧ IprAt w21 O3 U2 y2 ∧ Below w.heap.size w w21) := ⟨H20.out.1.below hb, H20.out.2.1.below hb, H20.out.2.2.1.below hb, H20.out.2.2.2.1.below hb, H20.out.2.2.2.2.1.below hb, H20.out.2.2.2.2.2.trans (hb.mono H20.out.2.2.2.2.2.size)⟩
        clear hb
        rw [HB.out]
        go_wp2_with (first | (refine wpList_load_ipr (.tmp 9) rfl O1 V x1 rfl H22.out.2.2.1 rfl ?_))
        refine (mask_any V x1 m w21 HX1L.out).mono ?_
        rintro e w23 ⟨rfl, hb⟩
        have H24 : Hid (IprAt w23 B V x ∧ IprAt w23 D U y ∧ IprAt w23 O1 V x1 ∧ PfxAt w23 O2 ⟨V, x1, n⟩ ∧ IprAt w23 O3 U2 y2 ∧ Below w.heap.size w w23) := ⟨H22.out.1.below hb, H22.out.2.1.below hb, H22.out.2.2.1.below hb, H22.out.2.2.2.1.below hb, H22.out.2.2.2.2.1.below hb, H22.out.2.2.2.2.2.trans (hb.mono H22.out.2.2.2.2.2.size)⟩
        clear hb
        by_cases hg : mkE V x1 m = 0
        · have HG : Hid (mkE V x1 m = 0) := hg
          have HT : Hid (mkE V x (min n m) = 0 ∧ same16 (mkX V x1 m) (mkX V x (min n m)) = true) := by have := hg; rw [HX1.out] at this ⊢; exact mask_two HE.out this
          rw [(mk_at hg).2, hg]
          obtain ⟨x2, hx2⟩ : ∃ x2, x2 = mkX V x1 m := ⟨_, rfl⟩
          have HX2 : Hid (x2 = mkX V x1 m) := hx2
          rw [← hx2]
          clear hg hx2
          obtain ⟨O4, hO⟩ : ∃ O_, O_ = w23.heap.size := ⟨_, rfl⟩
          have HOO4 : Hid (w23.heap.size = O4) := hO.symm
          clear hO
          go_wp2_with (first | (refine wpList_store_ipr (.tmp 15) (.tmp 84) rfl rfl w23.heap.size 0 (fun _ => 0) V x2 rfl rfl (ipr_new w23 0 (fun _ => 0)) rfl ?_))
          intro w25 hRE kE
          rw [HOO4.out] at hRE kE ⊢
          have bN : Below w23.heap.size w23 w25 := ((Below.refl _ _).alloc (Nat.le_refl _) _).trans (kE.below (fun q h => by have h' : q = O4 := h; have := HOO4.out; omega) (by rw [World.size_alloc]; omega))
          have H26 : Hid (IprAt w25 B V x ∧ IprAt w25 D U y ∧ IprAt w25 O1 V x1 ∧ PfxAt w25 O2 ⟨V, x1, n⟩ ∧ IprAt w25 O3 U2 y2 ∧ IprAt w25 O4 V x2 ∧ Below w.heap.size w w25) := ⟨H24.out.1.below bN, H24.out.2.1.below bN, H24.out.2.2.1.below bN, H24.out.2.2.2.1.below bN, H24.out.2.2.2.2.1.below bN, hRE, H24.out.2.2.2.2.2.trans (bN.mono H24.out.2.2.2.2.2.size)⟩
          clear hRE kE bN
          go_wp2_with fail
          refine (num4_any _ w25).mono ?_
          rintro e wz ⟨rfl, rfl⟩
          go_wp2_with (first | (refine wpList_load_ipr (.tmp 4) rfl B V x rfl H26.out.1 rfl ?_))
          refine (mask_any V x (min n m) w25 HX.out).mono ?_
          rintro e w27 ⟨rfl, hb⟩
          have H28 : Hid (IprAt w27 B V x ∧ IprAt w27 D U y ∧ IprAt w27 O1 V x1 ∧ PfxAt w27 O2 ⟨V, x1, n⟩ ∧ IprAt w27 O3 U2 y2 ∧ IprAt w27 O4 V x2 ∧ Below w.heap.size w w27) := ⟨H26.out.1.below hb, H26.out.2.1.below hb, H26.out.2.2.1.below hb, H26.out.2.2.2.1.below hb, H26.out.2.2.2.2.1.below hb, H26.out.2.2.2.2.2.1.below hb, H26.out.2.2.2.2.2.2.trans (hb.mono H26.out.2.2.2.2.2.2.size)⟩
          clear hb
          rw [(mk_at HT.out.1).2, HT.out.1]
          obtain ⟨x3, hx3⟩ : ∃ x3, x3 = mkX V x (min n m) := ⟨_, rfl⟩
          have HX3 : Hid (x3 = mkX V x (min n m)) := hx3
          have HX3L : Hid (∀ i, i < 16 → x3 i < 256) := by show ∀ i, i < 16 → x3 i < 256; rw [hx3]; exact mkX_lt HX.out
          have HSM : Hid (same16 x2 x3 = true) := by show _ = _; rw [HX2.out, hx3]; exact HT.out.2
          have HC3 : Hid (conB ⟨V, x3, min n m⟩ V x = true) := by show _ = _; rw [hx3]; exact con_self HT.out.1
          rw [← hx3]
          clear hx3
          obtain ⟨O5, hO⟩ : ∃ O_, O_ = w27.heap.size := ⟨_, rfl⟩
          have HOO5 : Hid (w27.heap.size = O5) := hO.symm
          clear hO
          go_wp2_with (first | (refine wpList_store_ipr (.tmp 17) (.tmp 96) rfl rfl w27.heap.size 0 (fun _ => 0) V x3 rfl rfl (ipr_new w27 0 (fun _ => 0)) rfl ?_))
          intro w29 hRE kE
          rw [HOO5.out] at hRE kE ⊢
          have bN : Below w27.heap.size w27 w29 := ((Below.refl _ _).alloc (Nat.le_refl _) _).trans (kE.below (fun q h => by have h' : q = O5 := h; have := HOO5.out; omega) (by rw [World.size_alloc]; omega))
          have H30 : Hid (IprAt w29 B V x ∧ IprAt w29 D U y ∧ IprAt w29 O1 V x1 ∧ PfxAt w29 O2 ⟨V, x1, n⟩ ∧ IprAt w29 O3 U2 y2 ∧ IprAt w29 O4 V x2 ∧ IprAt w29 O5 V x3 ∧ Below w.heap.size w w29) := ⟨H28.out.1.below bN, H28.out.2.1.below bN, H28.out.2.2.1.below bN, H28.out.2.2.2.1.below bN, H28.out.2.2.2.2.1.below bN, H28.out.2.2.2.2.2.1.below bN, hRE, H28.out.2.2.2.2.2.2.trans (bN.mono H28.out.2.2.2.2.2.2.size)⟩
          clear hRE kE bN
          obtain ⟨O6, hO⟩ : ∃ O_, O_ = w29.heap.size := ⟨_, rfl⟩
          have HOO6 : Hid (w29.heap.size = O6) := hO.symm
          clear hO
          go_wp2_with (first | (refine wpList_load_ipr (.tmp 17) rfl O5 V x3 rfl H30.out.2.2.2.2.2.2.1 rfl ?_) | (refine wpList_bpf4 (.tmp 98) (.tmp 101) rfl V x3 (min n m) rfl rfl rfl ?_) | (refine wpList_store_pfx (.tmp 19) (.tmp 102) rfl rfl w29.heap.size pz ⟨V, x3, min n m⟩ rfl rfl (pfx_new w29 pz) rfl ?_))
          intro w31 hRE kE
          rw [HOO6.out] at hRE kE ⊢
          have bN : Below w29.heap.size w29 w31 := ((Below.refl _ _).alloc (Nat.le_refl _) _).trans (kE.below (fun q h => by have h' : q = O6 := h; have := HOO6.out; omega) (by rw [World.size_alloc]; omega))
          have H32 : Hid (IprAt w31 B V x ∧ IprAt w31 D U y ∧ IprAt w31 O1 V x1 ∧ PfxAt w31 O2 ⟨V, x1, n⟩ ∧ IprAt w31 O3 U2 y2 ∧ IprAt w31 O4 V x2 ∧ IprAt w31 O5 V x3 ∧ PfxAt w31 O6 ⟨V, x3, min n m⟩ ∧ Below w.heap.size w w31) := ⟨H30.out.1.below bN, H30.out.2.1.below bN, H30.out.2.2.1.below bN, H30.out.2.2.2.1.below bN, H30.out.2.2.2.2.1.below bN, H30.out.2.2.2.2.2.1.below bN, H30.out.2.2.2.2.2.2.1.below bN, hRE, H30.out.2.2.2.2.2.2.2.trans (bN.mono H30.out.2.2.2.2.2.2.2.size)⟩
          clear hRE kE bN
          go_wp2_with fail
          refine (started_any w31 (HPW.out.below H32.out.2.2.2.2.2.2.2.2) (HSP.out.old H32.out.2.2.2.2.2.2.2.2)).mono ?_
          rintro e w33 ⟨rfl, hb⟩
          have H34 : Hid (IprAt w33 B V x ∧ IprAt w33 D U y ∧ IprAt w33 O1 V x1 ∧ PfxAt w33 O2 ⟨V, x1, n⟩ ∧ IprAt w33 O3 U2 y2 ∧ IprAt w33 O4 V x2 ∧ IprAt w33 O5 V x3 ∧ PfxAt w33 O6 ⟨V, x3, min n m⟩ ∧ Below w.heap.size w w33) := ⟨H32.out.1.below hb, H32.out.2.1.below hb, H32.out.2.2.1.below hb, H32.out.2.2.2.1.below hb, H32.out.2.2.2.2.1.below hb, H32.out.2.2.2.2.2.1.below hb, H32.out.2.2.2.2.2.2.1.below hb, H32.out.2.2.2.2.2.2.2.1.below hb, H32.out.2.2.2.2.2.2.2.2.trans (hb.mono H32.out.2.2.2.2.2.2.2.2.size)⟩
          clear hb
          go_wp2_with fail
          refine (num4_any _ w33).mono ?_
          rintro e wz ⟨rfl, rfl⟩
          go_wp2_with (first | (refine wpList_load_ipr (.tmp 15) rfl O4 V x2 rfl H34.out.2.2.2.2.2.1 rfl ?_) | (refine wpList_load_ipr (.tmp 17) rfl O5 V x3 rfl H34.out.2.2.2.2.2.2.1 rfl ?_) | (refine wpList_eql_ipb (.tmp 110) (.tmp 111) rfl V V x2 x3 rfl rfl true (by simp [HSM.out]) rfl ?_) | (refine wpList_load_pfx (.tmp 19) rfl O6 ⟨V, x3, min n m⟩ rfl H34.out.2.2.2.2.2.2.2.1 rfl ?_) | (refine wpList_load_ipr (.tmp 4) rfl B V x rfl H34.out.1 rfl ?_))
          refine (contains_any ⟨V, x3, min n m⟩ V x w33 HX3L.out HX.out).mono ?_
          rintro e w35 ⟨rfl, hb⟩
          have H36 : Hid (IprAt w35 B V x ∧ IprAt w35 D U y ∧ IprAt w35 O1 V x1 ∧ PfxAt w35 O2 ⟨V, x1, n⟩ ∧ IprAt w35 O3 U2 y2 ∧ IprAt w35 O4 V x2 ∧ IprAt w35 O5 V x3 ∧ PfxAt w35 O6 ⟨V, x3, min n m⟩ ∧ Below w.heap.size w w35) := ⟨H34.out.1.below hb, H34.out.2.1.below hb, H34.out.2.2.1.below hb, H34.out.2.2.2.1.below hb, H34.out.2.2.2.2.1.below hb, H34.out.2.2.2.2.2.1.below hb, H34.out.2.2.2.2.2.2.1.below hb, H34.out.2.2.2.2.2.2.2.1.below hb, H34.out.2.2.2.2.2.2.2.2.trans (hb.mono H34.out.2.2.2.2.2.2.2.2.size)⟩
          clear hb
          rw [HC3.out]
          go_wp2
          go_ret
          exact ⟨rfl, H36.out.2.2.2.2.2.2.2.2⟩
        · obtain ⟨g0, hg0⟩ : ∃ g0, g0 = mkE V x1 m := ⟨_, rfl⟩
          have q1 : (((g0 : Nat) : Int) != 0) = true := by rw [hg0]; simp [hg]
          obtain ⟨V4, hV4⟩ : ∃ V4, V4 = mkV V x1 m := ⟨_, rfl⟩
          obtain ⟨x4, hx4⟩ : ∃ x4, x4 = mkX V x1 m := ⟨_, rfl⟩
          rw [← hg0, ← hV4, ← hx4]
          clear hg hg0 hV4 hx4
          obtain ⟨O4, hO⟩ : ∃ O_, O_ = w23.heap.size := ⟨_, rfl⟩
          have HOO4 : Hid (w23.heap.size = O4) := hO.symm
          clear hO
          go_wp2_with (first | (refine wpList_store_ipr (.tmp 15) (.tmp 84) rfl rfl w23.heap.size 0 (fun _ => 0) V4 x4 rfl rfl (ipr_new w23 0 (fun _ => 0)) rfl ?_))
          intro w37 hRE kE
          rw [HOO4.out] at hRE kE ⊢
          have bN : Below w23.heap.size w23 w37 := ((Below.refl _ _).alloc (Nat.le_refl _) _).trans (kE.below (fun q h => by have h' : q = O4 := h; have := HOO4.out; omega) (by rw [World.size_alloc]; omega))
          have H38 : Hid (IprAt w37 B V x ∧ IprAt w37 D U y ∧ IprAt w37 O1 V x1 ∧ PfxAt w37 O2 ⟨V, x1, n⟩ ∧ IprAt w37 O3 U2 y2 ∧ IprAt w37 O4 V4 x4 ∧ Below w.heap.size w w37) := ⟨H24.out.1.below bN, H24.out.2.1.below bN, H24.out.2.2.1.below bN, H24.out.2.2.2.1.below bN, H24.out.2.2.2.2.1.below bN, hRE, H24.out.2.2.2.2.2.trans (bN.mono H24.out.2.2.2.2.2.size)⟩
          clear hRE kE bN
          go_wp2_with fail
          refine (num4_any _ w37).mono ?_
          rintro e wz ⟨rfl, rfl⟩
          go_wp2_with fail
          refine (started_any w37 (HPW.out.below H38.out.2.2.2.2.2.2) (HSP.out.old H38.out.2.2.2.2.2.2)).mono ?_
          rintro e w39 ⟨rfl, hb⟩
          have H40 : Hid (IprAt w39 B V x ∧ IprAt w39 D U y ∧ IprAt w39 O1 V x1 ∧ PfxAt w39 O2 ⟨V, x1, n⟩ ∧ IprAt w39 O3 U2 y2 ∧ IprAt w39 O4 V4 x4 ∧ Below w.heap.size w w39) := ⟨H38.out.1.below hb, H38.out.2.1.below hb, H38.out.2.2.1.below hb, H38.out.2.2.2.1.below hb, H38.out.2.2.2.2.1.below hb, H38.out.2.2.2.2.2.1.below hb, H38.out.2.2.2.2.2.2.trans (hb.mono H38.out.2.2.2.2.2.2.size)⟩
          clear hb
          go_wp2
          go_ret
          exact ⟨rfl, H40.out.2.2.2.2.2.2⟩
    · have q2 : (((f0 : Nat) : Int) == 0) = false := by simp [hf]
      have HB : Hid (conB ⟨V, x1, n⟩ U y = false) := by show _ = _; rw [HCM.out, ← HF0.out]; simp [hf]
      clear hf
      go_wp2_with (first | (refine wpList_load_pfx (.tmp 11) rfl O2 ⟨V, x1, n⟩ rfl H20.out.2.2.2.1 rfl ?_) | (refine wpList_load_ipr (.tmp 5) rfl D U y rfl H20.out.2.1 rfl ?_))
      refine (contains_any ⟨V, x1, n⟩ U y w19 HX1L.out HY.out).mono ?_
      rintro e w21 ⟨rfl, hb⟩
      have H22 : Hid (IprAt w21 B V x ∧ IprAt w21 D U y ∧ IprAt w21 O1 V x1 ∧ PfxAt w21 O2 ⟨V, x1, n⟩ ∧ IprAt w21 O3 U2 y2 ∧ Below w.heap.size w w21) := ⟨H20.out.1.below hb, H20.out.2.1.below hb, H20.out.2.2.1.below hb, H20.out.2.2.2.1.below hb, H20.out.2.2.2.2.1.below hb, H20.out.2.2.2.2.2.trans (hb.mono H20.out.2.2.2.2.2.size)⟩
      clear hb
      rw [HB.out]
      go_wp2_with (first | (refine wpList_load_ipr (.tmp 9) rfl O1 V x1 rfl H22.out.2.2.1 rfl ?_))
      refine (mask_any V x1 m w21 HX1L.out).mono ?_
      rintro e w23 ⟨rfl, hb⟩
      have H24 : Hid (IprAt w23 B V x ∧ IprAt w23 D U y ∧ IprAt w23 O1 V x1 ∧ PfxAt w23 O2 ⟨V, x1, n⟩ ∧ IprAt w23 O3 U2 y2 ∧ Below w.heap.size w w23) := ⟨H22.out.1.below hb, H22.out.2.1.below hb, H22.out.2.2.1.below hb, H22.out.2.2.2.1.below hb, H22.out.2.2.2.2.1.below hb, H22.out.2.2.2.2.2.trans (hb.mono H22.out.2.2.2.2.2.size)⟩
      clear hb
      by_cases hg : mkE V x1 m = 0
      · have HG : Hid (mkE V x1 m = 0) := hg
        have HT : Hid (mkE V x (min n m) = 0 ∧ same16 (mkX V x1 m) (mkX V x (min n m)) = true) := by have := hg; rw [HX1.out] at this ⊢; exact mask_two HE.out this
        rw [(mk_at hg).2, hg]
        obtain ⟨x2, hx2⟩ : ∃ x2, x2 = mkX V x1 m := ⟨_, rfl⟩
        have HX2 : Hid (x2 = mkX V x1 m) := hx2
        rw [← hx2]
        clear hg hx2
        obtain ⟨O4, hO⟩ : ∃ O_, O_ = w23.heap.size := ⟨_, rfl⟩
        have HOO4 : Hid (w23.heap.size = O4) := hO.symm
        clear hO
        go_wp2_with (first | (refine wpList_store_ipr (.tmp 15) (.tmp 84) rfl rfl w23.heap.size 0 (fun _ => 0) V x2 rfl rfl (ipr_new w23 0 (fun _ => 0)) rfl ?_))
        intro w25 hRE kE
        rw [HOO4.out] at hRE kE ⊢
        have bN : Below w23.heap.size w23 w25 := ((Below.refl _ _).alloc (Nat.le_refl _) _).trans (kE.below (fun q h => by have h' : q = O4 := h; have := HOO4.out; omega) (by rw [World.size_alloc]; omega))
        have H26 : Hid (IprAt w25 B V x ∧ IprAt w25 D U y ∧ IprAt w25 O1 V x1 ∧ PfxAt w25 O2 ⟨V, x1, n⟩ ∧ IprAt w25 O3 U2 y2 ∧ IprAt w25 O4 V x2 ∧ Below w.heap.size w w25) := ⟨H24.out.1.below bN, H24.out.2.1.below bN, H24.out.2.2.1.below bN, H24.out.2.2.2.1.below bN, H24.out.2.2.2.2.1.below bN, hRE, H24.out.2.2.2.2.2.trans (bN.mono H24.out.2.2.2.2.2.size)⟩
        clear hRE kE bN
        go_wp2_with fail
        refine (num4_any _ w25).mono ?_
        rintro e wz ⟨rfl, rfl⟩
        go_wp2_with (first | (refine wpList_load_ipr (.tmp 4) rfl B V x rfl H26.out.1 rfl ?_))
        refine (mask_any V x (min n m) w25 HX.out).mono ?_
        rintro e w27 ⟨rfl, hb⟩
        have H28 : Hid (IprAt w27 B V x ∧ IprAt w27 D U y ∧ IprAt w27 O1 V x1 ∧ PfxAt w27 O2 ⟨V, x1, n⟩ ∧ IprAt w27 O3 U2 y2 ∧ IprAt w27 O4 V x2 ∧ Below w.heap.size w w27) := ⟨H26.out.1.below hb, H26.out.2.1.below hb, H26.out.2.2.1.below hb, H26.out.2.2.2.1.below hb, H26.out.2.2.2.2.1.below hb, H26.out.2.2.2.2.2.1.below hb, H26.out.2.2.2.2.2.2.trans (hb.mono H26.out.2.2.2.2.2.2.size)⟩
        clear hb
        rw [(mk_at HT.out.1).2, HT.out.1]
        obtain ⟨x3, hx3⟩ : ∃ x3, x3 = mkX V x (min n m) := ⟨_, rfl⟩
        have HX3 : Hid (x3 = mkX V x (min n m)) := hx3
        have HX3L : Hid (∀ i, i < 16 → x3 i < 256) := by show ∀ i, i < 16 → x3 i < 256; rw [hx3]; exact mkX_lt HX.out
        have HSM : Hid (same16 x2 x3 = true) := by show _ = _; rw [HX2.out, hx3]; exact HT.out.2
        have HC3 : Hid (conB ⟨V, x3, min n m⟩ V x = true) := by show _ = _; rw [hx3]; exact con_self HT.out.1
        rw [← hx3]
        clear hx3
        obtain ⟨O5, hO⟩ : ∃ O_, O_ = w27.heap.size := ⟨_, rfl⟩
        have HOO5 : Hid (w27.heap.size = O5) := hO.symm
        clear hO
        go_wp2_with (first | (refine wpList_store_ipr (.tmp 17) (.tmp 96) rfl rfl w27.heap.size 0 (fun _ => 0) V x3 rfl rfl (ipr_new w27 0 (fun _ => 0)) rfl ?_))
        intro w29 hRE kE
        rw [HOO5.out] at hRE kE ⊢
        have bN : Below w27.heap.size w27 w29 := ((Below.refl _ _).alloc (Nat.le_refl _) _).trans (kE.below (fun q h => by have h' : q = O5 := h; have := HOO5.out; omega) (by rw [World.size_alloc]; omega))
        have H30 : Hid (IprAt w29 B V x ∧ IprAt w29 D U y ∧ IprAt w29 O1 V x1 ∧ PfxAt w29 O2 ⟨V, x1, n⟩ ∧ IprAt w29 O3 U2 y2 ∧ IprAt w29 O4 V x2 ∧ IprAt w29 O5 V x3 ∧ Below w.heap.size w w29) := ⟨H28.out.1.below bN, H28.out.2.1.below bN, H28.out.2.2.1.below bN, H28.out.2.2.2.1.below bN, H28.out.2.2.2.2.1.below bN, H28.out.2.2.2.2.2.1.below bN, hRE, H28.out.2.2.2.2.2.2.trans (bN.mono H28.out.2.2.2.2.2.2.size)⟩
        clear hRE kE bN
        obtain ⟨O6, hO⟩ : ∃ O_, O_ = w29.heap.size := ⟨_, rfl⟩
        have HOO6 : Hid (w29.heap.size = O6) := hO.symm
        clear hO
        go_wp2_with (first | (refine wpList_load_ipr (.tmp 17) rfl O5 V x3 rfl H30.out.2.2.2.2.2.2.1 rfl ?_) | (refine wpList_bpf4 (.tmp 98) (.tmp 101) rfl V x3 (min n m) rfl rfl rfl ?_) | (refine wpList_store_pfx (.tmp 19) (.tmp 102) rfl rfl w29.heap.size pz ⟨V, x3, min n m⟩ rfl rfl (pfx_new w29 pz) rfl ?_))
        intro w31 hRE kE
        rw [HOO6.out] at hRE kE ⊢
        have bN : Below w29.heap.size w29 w31 := ((Below.refl _ _).alloc (Nat.le_refl _) _).trans (kE.below (fun q h => by have h' : q = O6 := h; have := HOO6.out; omega) (by rw [World.size_alloc]; omega))
        have H32 : Hid (IprAt w31 B V x ∧ IprAt w31 D U y ∧ IprAt w31 O1 V x1 ∧ PfxAt w31 O2 ⟨V, x1, n⟩ ∧ IprAt w31 O3 U2 y2 ∧ IprAt w31 O4 V x2 ∧ IprAt w31 O5 V x3 ∧ PfxAt w31 O6 ⟨V, x3, min n m⟩ ∧ Below w.heap.size w w31) := ⟨H30.out.1.below bN, H30.out.2.1.below bN, H30.out.2.2.1.below bN, H30.out.2.2.2.1.below bN, H30.out.2.2.2.2.1.below bN, H30.out.2.2.2.2.2.1.below bN, H30.out.2.2.2.2.2.2.1.below bN, hRE, H30.out.2.2.2.2.2.2.2.trans (bN.mono H30.out.2.2.2.2.2.2.2.size)⟩
        clear hRE kE bN
        go_wp2_with fail
        refine (started_any w31 (HPW.out.below H32.out.2.2.2.2.2.2.2.2) (HSP.out.old H32.out.2.2.2.2.2.2.2.2)).mono ?_
        rintro e w33 ⟨rfl, hb⟩
        have H34 : Hid (IprAt w33 B V x ∧ IprAt w33 D U y ∧ IprAt w33 O1 V x1 ∧ PfxAt w33 O2 ⟨V, x1, n⟩ ∧ IprAt w33 O3 U2 y2 ∧ IprAt w33 O4 V x2 ∧ IprAt w33 O5 V x3 ∧ PfxAt w33 O6 ⟨V, x3, min n m⟩ ∧ Below w.heap.size w w33) := ⟨H32.out.1.below hb, H32.out.2.1.below hb, H32.out.2.2.1.below hb, H32.out.2.2.2.1.below hb, H32.out.2.2.2.2.1.below hb, H32.out.2.2.2.2.2.1.below hb, H32.out.2.2.2.2.2.2.1.below hb, H32.out.2.2.2.2.2.2.2.1.below hb, H32.out.2.2.2.2.2.2.2.2.trans (hb.mono H32.out.2.2.2.2.2.2.2.2.size)⟩
        clear hb
        go_wp2_with fail
        refine (num4_any _ w33).mono ?_
        rintro e wz ⟨rfl, rfl⟩
        go_wp2_with (first | (refine wpList_load_ipr (.tmp 15) rfl O4 V x2 rfl H34.out.2.2.2.2.2.1 rfl ?_) | (refine wpList_load_ipr (.tmp 17) rfl O5 V x3 rfl H34.out.2.2.2.2.2.2.1 rfl ?_) | (refine wpList_eql_ipb (.tmp 110) (.tmp 111) rfl V V x2 x3 rfl rfl true (by simp [HSM.out]) rfl ?_) | (refine wpList_load_pfx (.tmp 19) rfl O6 ⟨V, x3, min n m⟩ rfl H34.out.2.2.2.2.2.2.2.1 rfl ?_) | (refine wpList_load_ipr (.tmp 4) rfl B V x rfl H34.out.1 rfl ?_))
        refine (contains_any ⟨V, x3, min n m⟩ V x w33 HX3L.out HX.out).mono ?_
        rintro e w35 ⟨rfl, hb⟩
        have H36 : Hid (IprAt w35 B V x ∧ IprAt w35 D U y ∧ IprAt w35 O1 V x1 ∧ PfxAt w35 O2 ⟨V, x1, n⟩ ∧ IprAt w35 O3 U2 y2 ∧ IprAt w35 O4 V x2 ∧ IprAt w35 O5 V x3 ∧ PfxAt w35 O6 ⟨V, x3, min n m⟩ ∧ Below w.heap.size w w35) := ⟨H34.out.1.below hb, H34.out.2.1.below hb, H34.out.2.2.1.below hb, H34.out.2.2.2.1.below hb, H34.out.2.2.2.2.1.below hb, H34.out.2.2.2.2.2.1.below hb, H34.out.2.2.2.2.2.2.1.below hb, H34.out.2.2.2.2.2.2.2.1.below hb, H34.out.2.2.2.2.2.2.2.2.trans (hb.mono H34.out.2.2.2.2.2.2.2.2.size)⟩
        clear hb
        rw [HC3.out]
        go_wp2
        go_ret
        exact ⟨rfl, H36.out.2.2.2.2.2.2.2.2⟩
      · obtain ⟨g0, hg0⟩ : ∃ g0, g0 = mkE V x1 m := ⟨_, rfl⟩
        have q1 : (((g0 : Nat) : Int) != 0) = true := by rw [hg0]; simp [hg]
        obtain ⟨V4, hV4⟩ : ∃ V4, V4 = mkV V x1 m := ⟨_, rfl⟩
        obtain ⟨x4, hx4⟩ : ∃ x4, x4 = mkX V x1 m := ⟨_, rfl⟩
        rw [← hg0, ← hV4, ← hx4]
        clear hg hg0 hV4 hx4
        obtain ⟨O4, hO⟩ : ∃ O_, O_ = w23.heap.size := ⟨_, rfl⟩
        have HOO4 : Hid (w23.heap.size = O4) := hO.symm
        clear hO
        go_wp2_with (first | (refine wpList_store_ipr (.tmp 15) (.tmp 84) rfl rfl w23.heap.size 0 (fun _ => 0) V4 x4 rfl rfl (ipr_new w23 0 (fun _ => 0)) rfl ?_))
        intro w37 hRE kE
        rw [HOO4.out] at hRE kE ⊢
        have bN : Below w23.heap.size w23 w37 := ((Below.refl _ _).alloc (Nat.le_refl _) _).trans (kE.below (fun q h => by have h' : q = O4 := h; have := HOO4.out; omega) (by rw [World.size_alloc]; omega))
        have H38 : Hid (IprAt w37 B V x ∧ IprAt w37 D U y ∧ IprAt w37 O1 V x1 ∧ PfxAt w37 O2 ⟨V, x1, n⟩ ∧ IprAt w37 O3 U2 y2 ∧ IprAt w37 O4 V4 x4 ∧ Below w.heap.size w w37) := ⟨H24.out.1.below bN, H24.out.2.1.below bN, H24.out.2.2.1.below bN, H24.out.2.2.2.1.below bN, H24.out.2.2.2.2.1.below bN, hRE, H24.out.2.2.2.2.2.trans (bN.mono H24.out.2.2.2.2.2.size)⟩
        clear hRE kE bN
        go_wp2_with fail
        refine (num4_any _ w37).mono ?_
        rintro e wz ⟨rfl, rfl⟩
        go_wp2_with fail
        refine (started_any w37 (HPW.out.below H38.out.2.2.2.2.2.2) (HSP.out.old H38.out.2.2.2.2.2.2)).mono ?_
        rintro e w39 ⟨rfl, hb⟩
        have H40 : Hid (IprAt w39 B V x ∧ IprAt w39 D U y ∧ IprAt w39 O1 V x1 ∧ PfxAt w39 O2 ⟨V, x1, n⟩ ∧ IprAt w39 O3 U2 y2 ∧ IprAt w39 O4 V4 x4 ∧ Below w.heap.size w w39) := ⟨H38.out.1.below hb, H38.out.2.1.below hb, H38.out.2.2.1.below hb, H38.out.2.2.2.1.below hb, H38.out.2.2.2.2.1.below hb, H38.out.2.2.2.2.2.1.below hb, H38.out.2.2.2.2.2.2.trans (hb.mono H38.out.2.2.2.2.2.2.size)⟩
        clear hb
        go_wp2
        go_ret
        exact ⟨rfl, H40.out.2.2.2.2.2.2⟩
  · have HE : Hid (mkV V x n = 0 ∧ mkX V x n = fun _ => 0) := mk_bad he
    obtain ⟨e0, he0⟩ : ∃ e0, e0 = mkE V x n := ⟨_, rfl⟩
    have q0 : (((e0 : Nat) : Int) != 0) = true := by rw [he0]; simp [he]
    rw [← he0, HE.out.1, HE.out.2]
    clear he he0
    obtain ⟨O1, hO⟩ : ∃ O_, O_ = w1.heap.size := ⟨_, rfl⟩
    have HOO1 : Hid (w1.heap.size = O1) := hO.symm
    clear hO
    go_wp2_with (first | (refine wpList_store_ipr (.tmp 9) (.tmp 24) rfl rfl w1.heap.size 0 (fun _ => 0) 0 (fun _ => 0) rfl rfl (ipr_new w1 0 (fun _ => 0)) rfl ?_))
    intro w3 hRE kE
    rw [HOO1.out] at hRE kE ⊢
    have bN : Below w1.heap.size w1 w3 := ((Below.refl _ _).alloc (Nat.le_refl _) _).trans (kE.below (fun q h => by have h' : q = O1 := h; have := HOO1.out; omega) (by rw [World.size_alloc]; omega))
    have H4 : Hid (IprAt w3 B V x ∧ IprAt w3 D U y ∧ IprAt w3 O1 0 (fun _ => 0) ∧ Below w.heap.size w w3) := ⟨H2.out.1.below bN, H2.out.2.1.below bN, hRE, H2.out.2.2.trans (bN.mono H2.out.2.2.size)⟩
    clear hRE kE bN
    go_wp2_with fail
    refine (num4_any _ w3).mono ?_
    rintro e wz ⟨rfl, rfl⟩
    go_wp2_with fail
    refine (started_any w3 (HPW.out.below H4.out.2.2.2) (HSP.out.old H4.out.2.2.2)).mono ?_
    rintro e w5 ⟨rfl, hb⟩
    have H6 : Hid (IprAt w5 B V x ∧ IprAt w5 D U y ∧ IprAt w5 O1 0 (fun _ => 0) ∧ Below w.heap.size w w5) := ⟨H4.out.1.below hb, H4.out.2.1.below hb, H4.out.2.2.1.below hb, H4.out.2.2.2.trans (hb.mono H4.out.2.2.2.size)⟩
    clear hb
    go_wp2_with (first | (refine wpList_load_ipr (.tmp 9) rfl O1 0 (fun _ => 0) rfl H6.out.2.2.1 rfl ?_) | (refine wpList_eql_ip (.tmp 31) (.tmp 32) rfl 0 0 (fun _ => 0) (fun _ => 0) rfl rfl rfl ?_))
    rw [same16_rf]
    go_wp2
    go_ret
    exact ⟨rfl, H6.out.2.2.2⟩
end Go.Proofs.YtfeabifjnihooaaDoor
