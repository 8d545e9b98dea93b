/-
  weirlaw4: plays, upTo.
-/
import Derived.Test.YteldiggaooeeeaaGreatDoorB4w
namespace Go.Proofs.YteldiggaooeeeaaGreatDoor
open Go.RowKit Go.Maps

theorem gm_shape (V : Int) (x : Nat → Nat) : ∃ (m : Nat → Nat) (e : Nat), gmO V x = .tuple #[.agg (macC m), .int .i64 (e : Nat)] := ⟨_, _, rfl⟩
theorem so_shape (V : Int) (x : Nat → Nat) : ∃ (U : Int) (y : Nat → Nat) (e : Nat), soO V x = .tuple #[.agg (ipCells U y), .int .i64 (e : Nat)] := by
  unfold soO
  split
  · exact ⟨_, _, 0, rfl⟩
  · exact ⟨_, _, 40, rfl⟩
theorem same6_rf (m : Nat → Nat) : same6 m m = true := by simp [same6]
set_option maxHeartbeats 4000000 in
set_option maxRecDepth 100000 in
theorem plays_any (o : OP) (hok : OpOk o) (w : World) (hs : Spe8 w) (h3 : (o.k = 1 ∨ o.k = 2 ∨ o.k = 3) → ∀ A, Below w.heap.size w A → Calls Tryz.prog 22 #[.agg (opA o)] A (fun r w' => r = .returned (.bool true) ∧ Below A.heap.size A w')) (h6 : (o.k = 4 ∨ o.k = 5 ∨ o.k = 6) → ∀ A, Below w.heap.size w A → Calls Tryz.prog 23 #[.agg (opA o)] A (fun r w' => r = .returned (.bool true) ∧ Below A.heap.size A w')) : Calls Tryz.prog 14 #[.agg (opA o)] w fun r w' => r = .returned (.bool true) ∧ Below w.heap.size w w' := by
  have HOK : Hid (OpOk o) := hok
  have HSP : Hid (Spe8 w) := hs
  have H3 : Hid ((o.k = 1 ∨ o.k = 2 ∨ o.k = 3) → ∀ A, Below w.heap.size w A → Calls Tryz.prog 22 #[.agg (opA o)] A fun r w' => r = .returned (.bool true) ∧ Below A.heap.size A w') := h3
  have H6 : Hid ((o.k = 4 ∨ o.k = 5 ∨ o.k = 6) → ∀ A, Below w.heap.size w A → Calls Tryz.prog 23 #[.agg (opA o)] A fun r w' => r = .returned (.bool true) ∧ Below A.heap.size A w') := h6
  clear hok hs h3 h6
  go_enter Tryz.func14, Tryz.ntmps14
  go_wp2_with (refine wpList_box_ophN (.tmp 0) rfl o rfl rfl ?_)
  intro B W1 HB1 hI bI
  have H1 : Hid (OphAt W1 B o ∧ Below w.heap.size w W1) := ⟨hI, bI⟩
  clear hI bI HB1
  have k0 : W1.cell? ⟨B, 0, none⟩ = some (.int .i64 o.k) := H1.out.1.cell 0
  have k6 : W1.cell? ⟨B, 60, none⟩ = some (.int .i64 o.n) := H1.out.1.cell 60
  by_cases h1 : o.k = 1
  · have g1 : (o.k == 1) = true := by rw [h1]; rfl
    have hk := h1
    clear h1
    go_wp2_with (refine wpList_load_oph (.tmp 1) rfl B o rfl H1.out.1 rfl ?_)
    refine (H3.out (by simp [hk]) W1 H1.out.2).mono ?_
    rintro e w29 ⟨rfl, hb⟩
    have H30 : Hid (OphAt w29 B o ∧ Below w.heap.size w w29) := ⟨H1.out.1.below hb, H1.out.2.trans (hb.mono H1.out.2.size)⟩
    clear hb
    go_wp2
    go_ret
    exact ⟨rfl, H30.out.2⟩
  · have g1 : (o.k == 1) = false := by simp [h1]
    clear h1
    by_cases h2 : o.k = 2
    · have g2 : (o.k == 2) = true := by rw [h2]; rfl
      have hk := h2
      clear h2
      go_wp2_with (refine wpList_load_oph (.tmp 1) rfl B o rfl H1.out.1 rfl ?_)
      refine (H3.out (by simp [hk]) W1 H1.out.2).mono ?_
      rintro e w31 ⟨rfl, hb⟩
      have H32 : Hid (OphAt w31 B o ∧ Below w.heap.size w w31) := ⟨H1.out.1.below hb, H1.out.2.trans (hb.mono H1.out.2.size)⟩
      clear hb
      go_wp2
      go_ret
      exact ⟨rfl, H32.out.2⟩
    · have g2 : (o.k == 2) = false := by simp [h2]
      clear h2
      by_cases h3 : o.k = 3
      · have g3 : (o.k == 3) = true := by rw [h3]; rfl
        have hk := h3
        clear h3
        go_wp2_with (refine wpList_load_oph (.tmp 1) rfl B o rfl H1.out.1 rfl ?_)
        refine (H3.out (by simp [hk]) W1 H1.out.2).mono ?_
        rintro e w33 ⟨rfl, hb⟩
        have H34 : Hid (OphAt w33 B o ∧ Below w.heap.size w w33) := ⟨H1.out.1.below hb, H1.out.2.trans (hb.mono H1.out.2.size)⟩
        clear hb
        go_wp2
        go_ret
        exact ⟨rfl, H34.out.2⟩
      · have g3 : (o.k == 3) = false := by simp [h3]
        clear h3
        by_cases h4 : o.k = 4
        · have g4 : (o.k == 4) = true := by rw [h4]; rfl
          have hk := h4
          clear h4
          go_wp2_with (refine wpList_load_oph (.tmp 1) rfl B o rfl H1.out.1 rfl ?_)
          refine (H6.out (by simp [hk]) W1 H1.out.2).mono ?_
          rintro e w35 ⟨rfl, hb⟩
          have H36 : Hid (OphAt w35 B o ∧ Below w.heap.size w w35) := ⟨H1.out.1.below hb, H1.out.2.trans (hb.mono H1.out.2.size)⟩
          clear hb
          go_wp2
          go_ret
          exact ⟨rfl, H36.out.2⟩
        · have g4 : (o.k == 4) = false := by simp [h4]
          clear h4
          by_cases h5 : o.k = 5
          · have g5 : (o.k == 5) = true := by rw [h5]; rfl
            have hk := h5
            clear h5
            go_wp2_with (refine wpList_load_oph (.tmp 1) rfl B o rfl H1.out.1 rfl ?_)
            refine (H6.out (by simp [hk]) W1 H1.out.2).mono ?_
            rintro e w37 ⟨rfl, hb⟩
            have H38 : Hid (OphAt w37 B o ∧ Below w.heap.size w w37) := ⟨H1.out.1.below hb, H1.out.2.trans (hb.mono H1.out.2.size)⟩
            clear hb
            go_wp2
            go_ret
            exact ⟨rfl, H38.out.2⟩
          · have g5 : (o.k == 5) = false := by simp [h5]
            clear h5
            by_cases h6 : o.k = 6
            · have g6 : (o.k == 6) = true := by rw [h6]; rfl
              have hk := h6
              clear h6
              go_wp2_with (refine wpList_load_oph (.tmp 1) rfl B o rfl H1.out.1 rfl ?_)
              refine (H6.out (by simp [hk]) W1 H1.out.2).mono ?_
              rintro e w39 ⟨rfl, hb⟩
              have H40 : Hid (OphAt w39 B o ∧ Below w.heap.size w w39) := ⟨H1.out.1.below hb, H1.out.2.trans (hb.mono H1.out.2.size)⟩
              clear hb
              go_wp2
              go_ret
              exact ⟨rfl, H40.out.2⟩
            · have g6 : (o.k == 6) = false := by simp [h6]
              clear h6
              by_cases h7 : o.k = 7
              · have g7 : (o.k == 7) = true := by rw [h7]; rfl
                clear h7
                go_wp2_with (refine wpList_load_oph (.tmp 1) rfl B o rfl H1.out.1 rfl ?_)
                refine (known_any o HOK.out W1 (HSP.out.old H1.out.2)).mono ?_
                rintro e w41 ⟨rfl, hb⟩
                have H42 : Hid (OphAt w41 B o ∧ Below w.heap.size w w41) := ⟨H1.out.1.below hb, H1.out.2.trans (hb.mono H1.out.2.size)⟩
                clear hb
                go_wp2
                go_ret
                exact ⟨rfl, H42.out.2⟩
              · have g7 : (o.k == 7) = false := by simp [h7]
                clear h7
                by_cases h8 : o.k = 8
                · have g8 : (o.k == 8) = true := by rw [h8]; rfl
                  clear h8
                  go_wp2_with (refine wpList_load_oph (.tmp 1) rfl B o rfl H1.out.1 rfl ?_)
                  refine (known_any o HOK.out W1 (HSP.out.old H1.out.2)).mono ?_
                  rintro e w43 ⟨rfl, hb⟩
                  have H44 : Hid (OphAt w43 B o ∧ Below w.heap.size w w43) := ⟨H1.out.1.below hb, H1.out.2.trans (hb.mono H1.out.2.size)⟩
                  clear hb
                  go_wp2
                  go_ret
                  exact ⟨rfl, H44.out.2⟩
                · have g8 : (o.k == 8) = false := by simp [h8]
                  clear h8
                  by_cases h9 : o.k = 9
                  · have g9 : (o.k == 9) = true := by rw [h9]; rfl
                    clear h9
                    go_wp2_with (refine wpList_load_oph (.tmp 1) rfl B o rfl H1.out.1 rfl ?_)
                    refine (known_any o HOK.out W1 (HSP.out.old H1.out.2)).mono ?_
                    rintro e w45 ⟨rfl, hb⟩
                    have H46 : Hid (OphAt w45 B o ∧ Below w.heap.size w w45) := ⟨H1.out.1.below hb, H1.out.2.trans (hb.mono H1.out.2.size)⟩
                    clear hb
                    go_wp2
                    go_ret
                    exact ⟨rfl, H46.out.2⟩
                  · have g9 : (o.k == 9) = false := by simp [h9]
                    clear h9
                    by_cases h10 : o.k = 10
                    · have g10 : (o.k == 10) = true := by rw [h10]; rfl
                      clear h10
                      go_wp2_with (refine wpList_load_oph (.tmp 1) rfl B o rfl H1.out.1 rfl ?_)
                      refine (known_any o HOK.out W1 (HSP.out.old H1.out.2)).mono ?_
                      rintro e w47 ⟨rfl, hb⟩
                      have H48 : Hid (OphAt w47 B o ∧ Below w.heap.size w w47) := ⟨H1.out.1.below hb, H1.out.2.trans (hb.mono H1.out.2.size)⟩
                      clear hb
                      go_wp2
                      go_ret
                      exact ⟨rfl, H48.out.2⟩
                    · have g10 : (o.k == 10) = false := by simp [h10]
                      clear h10
                      by_cases h11 : o.k = 11
                      · have g11 : (o.k == 11) = true := by rw [h11]; rfl
                        clear h11
                        go_wp2_with (refine wpList_load_oph (.tmp 1) rfl B o rfl H1.out.1 rfl ?_)
                        refine (known_any o HOK.out W1 (HSP.out.old H1.out.2)).mono ?_
                        rintro e w49 ⟨rfl, hb⟩
                        have H50 : Hid (OphAt w49 B o ∧ Below w.heap.size w w49) := ⟨H1.out.1.below hb, H1.out.2.trans (hb.mono H1.out.2.size)⟩
                        clear hb
                        go_wp2
                        go_ret
                        exact ⟨rfl, H50.out.2⟩
                      · have g11 : (o.k == 11) = false := by simp [h11]
                        clear h11
                        by_cases h12 : o.k = 12
                        · have g12 : (o.k == 12) = true := by rw [h12]; rfl
                          clear h12
                          go_wp2_with (refine wpList_load_oph (.tmp 1) rfl B o rfl H1.out.1 rfl ?_)
                          refine (known_any o HOK.out W1 (HSP.out.old H1.out.2)).mono ?_
                          rintro e w51 ⟨rfl, hb⟩
                          have H52 : Hid (OphAt w51 B o ∧ Below w.heap.size w w51) := ⟨H1.out.1.below hb, H1.out.2.trans (hb.mono H1.out.2.size)⟩
                          clear hb
                          go_wp2
                          go_ret
                          exact ⟨rfl, H52.out.2⟩
                        · have g12 : (o.k == 12) = false := by simp [h12]
                          clear h12
                          by_cases h13 : o.k = 13
                          · have g13 : (o.k == 13) = true := by rw [h13]; rfl
                            clear h13
                            go_wp2_with (refine wpList_mid_ipr (.tmp 37) rfl B 2 o.aV o.ax rfl H1.out.1.ra rfl ?_)
                            obtain ⟨m, en, hg⟩ := gm_shape o.aV o.ax
                            have HG : Hid (gmO o.aV o.ax = .tuple #[.agg (macC m), .int .i64 (en : Nat)]) := hg
                            clear hg
                            refine (gmac_any o.aV o.ax W1 HOK.out.a (HSP.out.old H1.out.2)).mono ?_
                            rintro e w53 ⟨rfl, hb⟩
                            have H54 : Hid (OphAt w53 B o ∧ Below w.heap.size w w53) := ⟨H1.out.1.below hb, H1.out.2.trans (hb.mono H1.out.2.size)⟩
                            clear hb
                            rw [HG.out]
                            clear k0 k6
                            obtain ⟨O1, hO⟩ : ∃ O_, O_ = w53.heap.size := ⟨_, rfl⟩
                            have HOO1 : Hid (w53.heap.size = O1) := hO.symm
                            clear hO
                            go_wp2_with (refine wpList_store_mac (.tmp 3) (.tmp 40) rfl rfl w53.heap.size mz m rfl rfl (mac_new w53 mz) rfl ?_)
                            intro w55 hRE kE
                            rw [HOO1.out] at hRE kE ⊢
                            have bN : Below w53.heap.size w53 w55 := ((Below.refl _ _).alloc (Nat.le_refl _) _).trans (kE.below (fun q h => by have h' : q = O1 := h; have := HOO1.out; omega) (by rw [World.size_alloc]; omega))
                            have H56 : Hid (OphAt w55 B o ∧ MacAt w55 O1 m ∧ Below w.heap.size w w55) := ⟨H54.out.1.below bN, hRE, H54.out.2.trans (bN.mono H54.out.2.size)⟩
                            clear hRE kE bN
                            go_wp2_with (refine wpList_mid_ipr (.tmp 43) rfl B 2 o.aV o.ax rfl H56.out.1.ra rfl ?_)
                            refine (gmacR_any o.aV o.ax w55 HOK.out.a).mono ?_
                            rintro e w57 ⟨rfl, hb⟩
                            have H58 : Hid (OphAt w57 B o ∧ MacAt w57 O1 m ∧ Below w.heap.size w w57) := ⟨H56.out.1.below hb, H56.out.2.1.below hb, H56.out.2.2.trans (hb.mono H56.out.2.2.size)⟩
                            clear hb
                            rw [HG.out]
                            obtain ⟨O2, hO⟩ : ∃ O_, O_ = w57.heap.size := ⟨_, rfl⟩
                            have HOO2 : Hid (w57.heap.size = O2) := hO.symm
                            clear hO
                            go_wp2_with (refine wpList_store_mac (.tmp 5) (.tmp 46) rfl rfl w57.heap.size mz m rfl rfl (mac_new w57 mz) rfl ?_)
                            intro w59 hRE kE
                            rw [HOO2.out] at hRE kE ⊢
                            have bN : Below w57.heap.size w57 w59 := ((Below.refl _ _).alloc (Nat.le_refl _) _).trans (kE.below (fun q h => by have h' : q = O2 := h; have := HOO2.out; omega) (by rw [World.size_alloc]; omega))
                            have H60 : Hid (OphAt w59 B o ∧ MacAt w59 O1 m ∧ MacAt w59 O2 m ∧ Below w.heap.size w w59) := ⟨H58.out.1.below bN, H58.out.2.1.below bN, hRE, H58.out.2.2.trans (bN.mono H58.out.2.2.size)⟩
                            clear hRE kE bN
                            go_wp2_with (first | (refine wpList_load_mac (.tmp 3) rfl O1 m rfl H60.out.2.1 rfl ?_) | (refine wpList_load_mac (.tmp 5) rfl O2 m rfl H60.out.2.2.1 rfl ?_) | (refine wpList_eql_mac (.tmp 48) (.tmp 49) rfl m m rfl rfl true (same6_rf m) rfl ?_))
                            refine (num4_any _ w59).mono ?_
                            rintro e wz ⟨rfl, rfl⟩
                            go_wp2
                            go_ret
                            exact ⟨rfl, H60.out.2.2.2⟩
                          · have g13 : (o.k == 13) = false := by simp [h13]
                            clear h13
                            by_cases h14 : o.k = 14
                            · have g14 : (o.k == 14) = true := by rw [h14]; rfl
                              clear h14
                              go_wp2_with (refine wpList_mid_ipr (.tmp 60) rfl B 2 o.aV o.ax rfl H1.out.1.ra rfl ?_)
                              obtain ⟨U, y, en, hg⟩ := so_shape o.aV o.ax
                              have HG : Hid (soO o.aV o.ax = .tuple #[.agg (ipCells U y), .int .i64 (en : Nat)]) := hg
                              clear hg
                              refine (solic_any o.aV o.ax W1 HOK.out.a (HSP.out.old H1.out.2)).mono ?_
                              rintro e w61 ⟨rfl, hb⟩
                              have H62 : Hid (OphAt w61 B o ∧ Below w.heap.size w w61) := ⟨H1.out.1.below hb, H1.out.2.trans (hb.mono H1.out.2.size)⟩
                              clear hb
                              rw [HG.out]
                              clear k0 k6
                              obtain ⟨O1, hO⟩ : ∃ O_, O_ = w61.heap.size := ⟨_, rfl⟩
                              have HOO1 : Hid (w61.heap.size = O1) := hO.symm
                              clear hO
                              go_wp2_with (refine wpList_store_ipr (.tmp 7) (.tmp 63) rfl rfl w61.heap.size 0 (fun _ => 0) U y rfl rfl (ipr_new w61 0 (fun _ => 0)) rfl ?_)
                              intro w63 hRE kE
                              rw [HOO1.out] at hRE kE ⊢
                              have bN : Below w61.heap.size w61 w63 := ((Below.refl _ _).alloc (Nat.le_refl _) _).trans (kE.below (fun q h => by have h' : q = O1 := h; have := HOO1.out; omega) (by rw [World.size_alloc]; omega))
                              have H64 : Hid (OphAt w63 B o ∧ IprAt w63 O1 U y ∧ Below w.heap.size w w63) := ⟨H62.out.1.below bN, hRE, H62.out.2.trans (bN.mono H62.out.2.size)⟩
                              clear hRE kE bN
                              go_wp2_with (refine wpList_mid_ipr (.tmp 66) rfl B 2 o.aV o.ax rfl H64.out.1.ra rfl ?_)
                              refine (solicR_any o.aV o.ax w63 HOK.out.a).mono ?_
                              rintro e w65 ⟨rfl, hb⟩
                              have H66 : Hid (OphAt w65 B o ∧ IprAt w65 O1 U y ∧ Below w.heap.size w w65) := ⟨H64.out.1.below hb, H64.out.2.1.below hb, H64.out.2.2.trans (hb.mono H64.out.2.2.size)⟩
                              clear hb
                              rw [HG.out]
                              obtain ⟨O2, hO⟩ : ∃ O_, O_ = w65.heap.size := ⟨_, rfl⟩
                              have HOO2 : Hid (w65.heap.size = O2) := hO.symm
                              clear hO
                              go_wp2_with (refine wpList_store_ipr (.tmp 9) (.tmp 69) rfl rfl w65.heap.size 0 (fun _ => 0) U y rfl rfl (ipr_new w65 0 (fun _ => 0)) rfl ?_)
                              intro w67 hRE kE
                              rw [HOO2.out] at hRE kE ⊢
                              have bN : Below w65.heap.size w65 w67 := ((Below.refl _ _).alloc (Nat.le_refl _) _).trans (kE.below (fun q h => by have h' : q = O2 := h; have := HOO2.out; omega) (by rw [World.size_alloc]; omega))
                              have H68 : Hid (OphAt w67 B o ∧ IprAt w67 O1 U y ∧ IprAt w67 O2 U y ∧ Below w.heap.size w w67) := ⟨H66.out.1.below bN, H66.out.2.1.below bN, hRE, H66.out.2.2.trans (bN.mono H66.out.2.2.size)⟩
                              clear hRE kE bN
                              go_wp2_with (first | (refine wpList_load_ipr (.tmp 7) rfl O1 U y rfl H68.out.2.1 rfl ?_) | (refine wpList_load_ipr (.tmp 9) rfl O2 U y rfl H68.out.2.2.1 rfl ?_) | (refine wpList_eql_ipb (.tmp 71) (.tmp 72) rfl U U y y rfl rfl true (by rw [same16_rf, beq_self_eq_true]; rfl) rfl ?_))
                              refine (num4_any _ w67).mono ?_
                              rintro e wz ⟨rfl, rfl⟩
                              go_wp2
                              go_ret
                              exact ⟨rfl, H68.out.2.2.2⟩
                            · have g14 : (o.k == 14) = false := by simp [h14]
                              clear h14
                              clear k6
                              go_wp2
                              go_ret
                              exact ⟨rfl, H1.out.2⟩
set_option maxHeartbeats 1600000 in
set_option maxRecDepth 100000 in
theorem upTo_any (w : World) (a : Option Addr) (len cap : Nat) (rs : List OP) (hl : rs.length = len) (hr : ListG 61 opL OpOk w a rs) (hn : len ≤ maxLen) (lo hi : Int) (hp : ∀ (o : OP), OpOk o → lo ≤ o.k → o.k ≤ hi → ∀ A, Below w.heap.size w A → Calls Tryz.prog 14 #[.agg (opA o)] A fun r w' => r = .returned (.bool true) ∧ Below A.heap.size A w') : Calls Tryz.prog 8 #[.slice a len cap, .int .i64 lo, .int .i64 hi] w fun r w' => r = .returned (.bool true) ∧ Below w.heap.size w w' := by
  have HL : Hid (rs.length = len ∧ ListG 61 opL OpOk w a rs ∧ len ≤ maxLen) := ⟨hl, hr, hn⟩
  have HP : Hid (∀ (o : OP), OpOk o → lo ≤ o.k → o.k ≤ hi → ∀ A, Below w.heap.size w A → Calls Tryz.prog 14 #[.agg (opA o)] A fun r w' => r = .returned (.bool true) ∧ Below A.heap.size A w') := hp
  clear hl hr hn hp
  go_enter Tryz.func8, Tryz.ntmps8
  go_wp2
  go_loopw [7, 8] (fun iv _ wr => ∃ i : Nat, i ≤ len ∧ iv = .int .i64 (i : Nat) ∧ Hid (Below w.heap.size w wr)) (fun iv _ _ => len - (intOf iv).toNat)
  case atStart => exact ⟨0, Nat.zero_le _, rfl, Below.refl _ _⟩
  case round =>
    obtain ⟨i, hi_, rfl, HB⟩ := hrel
    by_cases hlt : i < len
    · have HI : Hid (i < len) := hlt
      obtain ⟨o, hok, g, off, hag, hra⟩ := op_at HL.out.2.1 HB.out i (by have := HL.out.1; omega)
      have hmx : len ≤ 9223372036854775807 := by have := HL.out.2.2; unfold maxLen at this; exact this
      have z3 : IntKind.i64.wrap ((i : Int) + 1) = (i : Int) + 1 := by rw [IntKind.wrap_i64]; omega
      have p1 : decide ((i : Int) < (len : Int)) = true := decide_eq_true (by omega)
      have p2 : decide (i < len) = true := decide_eq_true hlt
      have p3 : (i : Int) < (len : Int) := by omega
      have p4 : (0 : Int) ≤ (i : Int) := by omega
      have HO : Hid (OpOk o ∧ wr.rangeAt g (off + i * 61) (opA o).toList) := ⟨hok, hra⟩
      subst hag
      clear hlt hok hra hmx hi_
      have k0 : wr.cell? ⟨g, off + i * 61, none⟩ = some (.int .i64 o.k) := HO.out.2 0 _ rfl
      by_cases h1 : lo ≤ o.k
      · by_cases h2 : o.k ≤ hi
        · have q1 : decide (o.k ≥ lo) = true := decide_eq_true h1
          have q2 : decide (o.k ≤ hi) = true := decide_eq_true h2
          have HK : Hid (lo ≤ o.k ∧ o.k ≤ hi) := ⟨h1, h2⟩
          clear h1 h2
          go_wp2_with (first | (refine wpList_mid_oph (.tmp 33) rfl g (off + i * 61) o rfl HO.out.2 rfl ?_))
          refine (HP.out o HO.out.1 HK.out.1 HK.out.2 wr HB.out).mono ?_
          rintro e w2 ⟨rfl, hb⟩
          have HB2 : Hid (Below w.heap.size w w2) := HB.out.trans (hb.mono HB.out.size)
          clear hb k0
          go_wp2_with fail
          go_roundw
          case rel => exact ⟨i + 1, HI.out, by simp, HB2.out⟩
          case measure => have := HI.out; simp [intOf]; omega
        · have q1 : decide (o.k ≥ lo) = true := decide_eq_true h1
          have q2 : decide (o.k ≤ hi) = false := decide_eq_false h2
          clear h1 h2
          go_wp2
          go_roundw
          case rel => exact ⟨i + 1, HI.out, by simp, HB.out⟩
          case measure => have := HI.out; simp [intOf]; omega
      · have q1 : decide (o.k ≥ lo) = false := decide_eq_false h1
        clear h1
        go_wp2
        go_roundw
        case rel => exact ⟨i + 1, HI.out, by simp, HB.out⟩
        case measure => have := HI.out; simp [intOf]; omega
    · have p1 : decide ((i : Int) < (len : Int)) = false := decide_eq_false (by omega)
      have p2 : decide (i < len) = false := decide_eq_false hlt
      have p3 : ¬ (i : Int) < (len : Int) := by omega
      clear hlt
      go_wp2
      go_ret
      exact ⟨rfl, HB.out⟩
end Go.Proofs.YteldiggaooeeeaaGreatDoor
