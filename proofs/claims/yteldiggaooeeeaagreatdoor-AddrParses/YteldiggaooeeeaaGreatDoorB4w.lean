/-
  weirlaw4: known, plays (the kinds 7 to 14).
-/
import Derived.Test.YteldiggaooeeeaaGreatDoorB4v
import Derived.Test.YteldiggaooeeeaaGreatDoorB4t
namespace Go.Proofs.YteldiggaooeeeaaGreatDoor
open Go.RowKit Go.Maps

theorem wpList_eql_ipb {ops : Array Oper} {rest : List Oper} {o : Oper} {a : Act} {w : World} {Q : Exit → Act → World → Prop} (X Y : Operand) (ho : o.op = .binOp .eql 28 X Y 28) (V U : Int) (x y : Nat → Nat) (hx : a.eval X = .agg (ipCells V x)) (hy : a.eval Y = .agg (ipCells U y)) (b : Bool) (hbb : (V == U && same16 x y) = b)
    (hw : Region.wanted o (yielded ops a.tmps) = true) (h : wpList Tryz.prog ops Q rest (a.put o.dst (.bool b)) w) : wpList Tryz.prog ops Q (o :: rest) a w := by
  subst hbb
  exact wpList_eql_ip X Y ho V U x y hx hy hw h
theorem wpList_box_ophN {ops : Array Oper} {rest : List Oper} {o : Oper} {a : Act} {w : World} {Q : Exit → Act → World → Prop} (X : Operand) (ho : o.op = .box 42 X) (op_ : OP) (hx : a.eval X = .agg (opA op_)) (hw : Region.wanted o (yielded ops a.tmps) = true)
    (h : ∀ B W, Hid (w.heap.size = B ∧ W.heap.size = B + 1) → OphAt W B op_ → Below w.heap.size w W → wpList Tryz.prog ops Q rest (a.put o.dst (.pointer (some ⟨B, 0, none⟩))) W) : wpList Tryz.prog ops Q (o :: rest) a w := by
  refine wpList_step fun K hK => ?_
  rw [if_pos hw]
  have hrun : (execOp a.eval o).run Tryz.prog w = .ok (.value (.pointer (some ⟨w.heap.size, 0, none⟩))) (w.alloc (.cells (opA op_) 42)) := by
    obtain ⟨dst, op, type, pos, after, guard⟩ := o
    simp only at ho
    subst ho
    simp only [execOp, hx]
    go_simp
  unfold Oper.wp
  rw [hrun]
  exact hK _ _ (h _ _ ⟨rfl, World.size_alloc _ _⟩ (oph_new _ _) ((Below.refl _ _).alloc (Nat.le_refl _) _))
set_option maxHeartbeats 4000000 in
set_option maxRecDepth 100000 in
theorem known_any (o : OP) (hok : OpOk o) (w : World) (hs : Spe8 w) : Calls Tryz.prog 24 #[.agg (opA o)] w fun r w' => r = .returned (.bool true) ∧ Below w.heap.size w w' := by
  have HOK : Hid (OpOk o) := hok
  have HSP : Hid (Spe8 w) := hs
  clear hok hs
  go_enter Tryz.func24, Tryz.ntmps24
  go_wp2_with (refine wpList_box_ophN (.tmp 0) rfl o rfl rfl ?_)
  intro B W1 HB1 hI bI
  have H1 : Hid (OphAt W1 B o ∧ Below w.heap.size w W1) := ⟨hI, bI⟩
  clear hI bI HB1
  have k0 : W1.cell? ⟨B, 0, none⟩ = some (.int .i64 o.k) := H1.out.1.cell 0
  have k6 : W1.cell? ⟨B, 60, none⟩ = some (.int .i64 o.n) := H1.out.1.cell 60
  by_cases h7 : o.k = 7
  · have g7 : (o.k == 7) = true := by rw [h7]; rfl
    clear h7
    go_wp2_with (refine wpList_mid_ipr (.tmp 21) rfl B 2 o.aV o.ax rfl H1.out.1.ra rfl ?_)
    refine (valid_any o.aV o.ax W1 HOK.out.a).mono ?_
    rintro e w5 ⟨rfl, hb⟩
    have H6 : Hid (OphAt w5 B o ∧ Below w.heap.size w w5) := ⟨H1.out.1.below hb, H1.out.2.trans (hb.mono H1.out.2.size)⟩
    clear hb
    rw [vld_vR o.aV o.ax HOK.out.a]
    go_wp2_with (refine wpList_mid_ipr (.tmp 24) rfl B 2 o.aV o.ax rfl H6.out.1.ra rfl ?_)
    refine (validR_any o.aV o.ax w5).mono ?_
    rintro e w7 ⟨rfl, hb⟩
    have H8 : Hid (OphAt w7 B o ∧ Below w.heap.size w w7) := ⟨H6.out.1.below hb, H6.out.2.trans (hb.mono H6.out.2.size)⟩
    clear hb
    obtain ⟨bb, hbb⟩ : ∃ u_, vR o.aV o.ax = u_ := ⟨_, rfl⟩
    rw [hbb]
    clear hbb
    clear k0 k6
    cases bb
    · go_wp2
      go_ret
      exact ⟨rfl, H8.out.2⟩
    · go_wp2
      go_ret
      exact ⟨rfl, H8.out.2⟩
  · have g7 : (o.k == 7) = false := by simp [h7]
    clear h7
    by_cases h8 : o.k = 8
    · have g8 : (o.k == 8) = true := by rw [h8]; rfl
      clear h8
      go_wp2_with (refine wpList_mid_pfx (.tmp 32) rfl B 36 o.p rfl H1.out.1.rp rfl ?_)
      refine (vpref_any o.p W1 HOK.out.p).mono ?_
      rintro e w9 ⟨rfl, hb⟩
      have H10 : Hid (OphAt w9 B o ∧ Below w.heap.size w w9) := ⟨H1.out.1.below hb, H1.out.2.trans (hb.mono H1.out.2.size)⟩
      clear hb
      rw [vp_alike o.p HOK.out.p]
      go_wp2_with (refine wpList_mid_pfx (.tmp 35) rfl B 36 o.p rfl H10.out.1.rp rfl ?_)
      refine (validPrefixR_any o.p w9 HOK.out.p).mono ?_
      rintro e w11 ⟨rfl, hb⟩
      have H12 : Hid (OphAt w11 B o ∧ Below w.heap.size w w11) := ⟨H10.out.1.below hb, H10.out.2.trans (hb.mono H10.out.2.size)⟩
      clear hb
      obtain ⟨bb, hbb⟩ : ∃ u_, vpR o.p = u_ := ⟨_, rfl⟩
      rw [hbb]
      clear hbb
      clear k0 k6
      go_wp2_with fail
      refine (num4_any _ w11).mono ?_
      rintro e wz ⟨rfl, rfl⟩
      go_wp2
      go_ret
      exact ⟨rfl, H12.out.2⟩
    · have g8 : (o.k == 8) = false := by simp [h8]
      clear h8
      by_cases h9 : o.k = 9
      · have g9 : (o.k == 9) = true := by rw [h9]; rfl
        clear h9
        go_wp2_with (refine wpList_mid_ipr (.tmp 45) rfl B 2 o.aV o.ax rfl H1.out.1.ra rfl ?_)
        refine (mask_any o.aV o.ax o.n W1 HOK.out.a).mono ?_
        rintro e w13 ⟨rfl, hb⟩
        have H14 : Hid (OphAt w13 B o ∧ Below w.heap.size w w13) := ⟨H1.out.1.below hb, H1.out.2.trans (hb.mono H1.out.2.size)⟩
        clear hb
        obtain ⟨U, hU⟩ : ∃ u_, mkV o.aV o.ax o.n = u_ := ⟨_, rfl⟩
        obtain ⟨y, hy⟩ : ∃ u_, mkX o.aV o.ax o.n = u_ := ⟨_, rfl⟩
        obtain ⟨en, hen⟩ : ∃ u_, mkE o.aV o.ax o.n = u_ := ⟨_, rfl⟩
        have HMK : Hid (mkV o.aV o.ax o.n = U ∧ mkX o.aV o.ax o.n = y ∧ mkE o.aV o.ax o.n = en) := ⟨hU, hy, hen⟩
        rw [hU, hy, hen]
        clear hU hy hen k0 k6
        obtain ⟨O1, hO⟩ : ∃ O_, O_ = w13.heap.size := ⟨_, rfl⟩
        have HOO1 : Hid (w13.heap.size = O1) := hO.symm
        clear hO
        go_wp2_with (refine wpList_store_ipr (.tmp 7) (.tmp 50) rfl rfl w13.heap.size 0 (fun _ => 0) U y rfl rfl (ipr_new w13 0 (fun _ => 0)) rfl ?_)
        intro w15 hRE kE
        rw [HOO1.out] at hRE kE ⊢
        have bN : Below w13.heap.size w13 w15 := ((Below.refl _ _).alloc (Nat.le_refl _) _).trans (kE.below (fun q h => by have h' : q = O1 := h; have := HOO1.out; omega) (by rw [World.size_alloc]; omega))
        have H16 : Hid (OphAt w15 B o ∧ IprAt w15 O1 U y ∧ Below w.heap.size w w15) := ⟨H14.out.1.below bN, hRE, H14.out.2.trans (bN.mono H14.out.2.size)⟩
        clear hRE kE bN
        have k6 : w15.cell? ⟨B, 60, none⟩ = some (.int .i64 o.n) := H16.out.1.cell 60
        go_wp2_with (refine wpList_mid_ipr (.tmp 53) rfl B 2 o.aV o.ax rfl H16.out.1.ra rfl ?_)
        refine (maskR_any o.aV o.ax o.n w15 HOK.out.a).mono ?_
        rintro e w17 ⟨rfl, hb⟩
        have H18 : Hid (OphAt w17 B o ∧ IprAt w17 O1 U y ∧ Below w.heap.size w w17) := ⟨H16.out.1.below hb, H16.out.2.1.below hb, H16.out.2.2.trans (hb.mono H16.out.2.2.size)⟩
        clear hb
        rw [HMK.out.1, HMK.out.2.1, HMK.out.2.2]
        clear k6
        obtain ⟨O2, hO⟩ : ∃ O_, O_ = w17.heap.size := ⟨_, rfl⟩
        have HOO2 : Hid (w17.heap.size = O2) := hO.symm
        clear hO
        go_wp2_with (refine wpList_store_ipr (.tmp 9) (.tmp 58) rfl rfl w17.heap.size 0 (fun _ => 0) U y rfl rfl (ipr_new w17 0 (fun _ => 0)) rfl ?_)
        intro w19 hRE kE
        rw [HOO2.out] at hRE kE ⊢
        have bN : Below w17.heap.size w17 w19 := ((Below.refl _ _).alloc (Nat.le_refl _) _).trans (kE.below (fun q h => by have h' : q = O2 := h; have := HOO2.out; omega) (by rw [World.size_alloc]; omega))
        have H20 : Hid (OphAt w19 B o ∧ IprAt w19 O1 U y ∧ IprAt w19 O2 U y ∧ Below w.heap.size w w19) := ⟨H18.out.1.below bN, H18.out.2.1.below bN, hRE, H18.out.2.2.trans (bN.mono H18.out.2.2.size)⟩
        clear hRE kE bN
        go_wp2_with (first | (refine wpList_load_ipr (.tmp 7) rfl O1 U y rfl H20.out.2.1 rfl ?_) | (refine wpList_load_ipr (.tmp 9) rfl O2 U y rfl H20.out.2.2.1 rfl ?_) | (refine wpList_eql_ipb (.tmp 60) (.tmp 61) rfl U U y y rfl rfl true (by rw [same16_rf, beq_self_eq_true]; rfl) rfl ?_))
        refine (num4_any _ w19).mono ?_
        rintro e wz ⟨rfl, rfl⟩
        go_wp2
        go_ret
        exact ⟨rfl, H20.out.2.2.2⟩
      · have g9 : (o.k == 9) = false := by simp [h9]
        clear h9
        by_cases h10 : o.k = 10
        · have g10 : (o.k == 10) = true := by rw [h10]; rfl
          clear h10
          go_wp2_with (first | (refine wpList_mid_pfx (.tmp 71) rfl B 36 o.p rfl H1.out.1.rp rfl ?_) | (refine wpList_mid_ipr (.tmp 73) rfl B 2 o.aV o.ax rfl H1.out.1.ra rfl ?_))
          refine (contains_any o.p o.aV o.ax W1 HOK.out.p HOK.out.a).mono ?_
          rintro e w21 ⟨rfl, hb⟩
          have H22 : Hid (OphAt w21 B o ∧ Below w.heap.size w w21) := ⟨H1.out.1.below hb, H1.out.2.trans (hb.mono H1.out.2.size)⟩
          clear hb
          rw [con_alike o.p o.aV o.ax HOK.out.p HOK.out.a]
          go_wp2_with (first | (refine wpList_mid_pfx (.tmp 76) rfl B 36 o.p rfl H22.out.1.rp rfl ?_) | (refine wpList_mid_ipr (.tmp 78) rfl B 2 o.aV o.ax rfl H22.out.1.ra rfl ?_))
          refine (containsR_any o.p o.aV o.ax w21 HOK.out.p HOK.out.a).mono ?_
          rintro e w23 ⟨rfl, hb⟩
          have H24 : Hid (OphAt w23 B o ∧ Below w.heap.size w w23) := ⟨H22.out.1.below hb, H22.out.2.trans (hb.mono H22.out.2.size)⟩
          clear hb
          obtain ⟨bb, hbb⟩ : ∃ u_, cnR o.p o.aV o.ax = u_ := ⟨_, rfl⟩
          rw [hbb]
          clear hbb
          clear k0 k6
          cases bb
          · go_wp2
            go_ret
            exact ⟨rfl, H24.out.2⟩
          · go_wp2
            go_ret
            exact ⟨rfl, H24.out.2⟩
        · have g10 : (o.k == 10) = false := by simp [h10]
          clear h10
          by_cases h11 : o.k = 11
          · have g11 : (o.k == 11) = true := by rw [h11]; rfl
            clear h11
            go_wp2_with (refine wpList_mid_ipr (.tmp 86) rfl B 2 o.aV o.ax rfl H1.out.1.ra rfl ?_)
            refine (class_any o.aV o.ax W1 HOK.out.a (HSP.out.old H1.out.2)).mono ?_
            rintro e w25 ⟨rfl, hb⟩
            have H26 : Hid (OphAt w25 B o ∧ Below w.heap.size w w25) := ⟨H1.out.1.below hb, H1.out.2.trans (hb.mono H1.out.2.size)⟩
            clear hb
            rw [class_alike o.aV o.ax HOK.out.a]
            go_wp2_with (refine wpList_mid_ipr (.tmp 89) rfl B 2 o.aV o.ax rfl H26.out.1.ra rfl ?_)
            refine (classR_any o.aV o.ax w25 HOK.out.a).mono ?_
            rintro e w27 ⟨rfl, hb⟩
            have H28 : Hid (OphAt w27 B o ∧ Below w.heap.size w w27) := ⟨H26.out.1.below hb, H26.out.2.trans (hb.mono H26.out.2.size)⟩
            clear hb
            obtain ⟨bb, hbb⟩ : ∃ u_, clR o.aV o.ax = u_ := ⟨_, rfl⟩
            rw [hbb]
            clear hbb
            clear k0 k6
            go_wp2
            go_ret
            exact ⟨rfl, H28.out.2⟩
          · have g11 : (o.k == 11) = false := by simp [h11]
            clear h11
            go_wp2_with (first | (refine wpList_mid_ipr (.tmp 95) rfl B 2 o.aV o.ax rfl H1.out.1.ra rfl ?_) | (refine wpList_mid_ipr (.tmp 97) rfl B 19 o.bV o.bx rfl H1.out.1.rb rfl ?_))
            refine (Less_any o.aV o.bV o.ax o.bx W1).mono ?_
            rintro e w1 ⟨rfl, hb⟩
            have H2 : Hid (OphAt w1 B o ∧ Below w.heap.size w w1) := ⟨H1.out.1.below hb, H1.out.2.trans (hb.mono H1.out.2.size)⟩
            clear hb
            go_wp2_with (first | (refine wpList_mid_ipr (.tmp 100) rfl B 2 o.aV o.ax rfl H2.out.1.ra rfl ?_) | (refine wpList_mid_ipr (.tmp 102) rfl B 19 o.bV o.bx rfl H2.out.1.rb rfl ?_))
            refine (lessR_any o.aV o.bV o.ax o.bx w1 HOK.out.a HOK.out.b).mono ?_
            rintro e w3 ⟨rfl, hb⟩
            have H4 : Hid (OphAt w3 B o ∧ Below w.heap.size w w3) := ⟨H2.out.1.below hb, H2.out.2.trans (hb.mono H2.out.2.size)⟩
            clear hb
            obtain ⟨bb, hbb⟩ : ∃ u_, lessB o.aV o.bV o.ax o.bx = u_ := ⟨_, rfl⟩
            rw [hbb]
            clear hbb
            clear k0 k6
            cases bb
            · go_wp2
              go_ret
              exact ⟨rfl, H4.out.2⟩
            · go_wp2
              go_ret
              exact ⟨rfl, H4.out.2⟩
end Go.Proofs.YteldiggaooeeeaaGreatDoor
