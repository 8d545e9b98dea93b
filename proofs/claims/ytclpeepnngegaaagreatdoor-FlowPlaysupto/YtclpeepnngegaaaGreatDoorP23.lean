/-
  R4o: lemmas of the proof of FlowPlays, and walks through the functions that it calls.
-/
import Derived.Test.YtclpeepnngegaaaGreatDoorP00
import Derived.Test.YtclpeepnngegaaaGreatDoorP22
namespace Go.Proofs.YtclpeepnngegaaaGreatDoor
open Go.RowKit Go.Maps
def clR (V : Int) (x : Nat → Nat) : Nat :=
 if !vR V x then 0 else
 if cnR ⟨4, bt [0, 0, 0, 0], ((32 : Nat) : Int)⟩ V x || cnR ⟨6, bt [0, 0, 0, 0, 0, 0, 0, 0, 0, 0, 0, 0, 0, 0, 0, 0], ((128 : Nat) : Int)⟩ V x then 1 else
 if cnR ⟨4, bt [127, 0, 0, 0], ((8 : Nat) : Int)⟩ V x || cnR ⟨6, bt [0, 0, 0, 0, 0, 0, 0, 0, 0, 0, 0, 0, 0, 0, 0, 1], ((128 : Nat) : Int)⟩ V x then 2 else
 if cnR ⟨4, bt [224, 0, 0, 0], ((4 : Nat) : Int)⟩ V x || cnR ⟨6, bt [255, 0, 0, 0, 0, 0, 0, 0, 0, 0, 0, 0, 0, 0, 0, 0], ((8 : Nat) : Int)⟩ V x then 3 else
 if cnR ⟨4, bt [169, 254, 0, 0], ((16 : Nat) : Int)⟩ V x || cnR ⟨6, bt [254, 128, 0, 0, 0, 0, 0, 0, 0, 0, 0, 0, 0, 0, 0, 0], ((10 : Nat) : Int)⟩ V x then 4 else
 if cnR ⟨4, bt [255, 255, 255, 255], ((32 : Nat) : Int)⟩ V x then 5 else
 if cnR ⟨4, bt [0, 0, 0, 0], ((8 : Nat) : Int)⟩ V x || cnR ⟨4, bt [240, 0, 0, 0], ((4 : Nat) : Int)⟩ V x || cnR ⟨6, bt [0, 0, 0, 0, 0, 0, 0, 0, 0, 0, 0, 0, 0, 0, 0, 0], ((8 : Nat) : Int)⟩ V x then 6 else
 7
set_option maxHeartbeats 1600000 in
set_option maxRecDepth 100000 in
theorem classR_any (V : Int) (x : Nat → Nat) (w : World) (hx : ∀ i, i < 16 → x i < 256) : Calls Tryz.prog 24 #[.agg (ipCells V x)] w fun r w' => r = .returned (.int .i64 (clR V x : Nat)) ∧ Below w.heap.size w w' := by
 obtain ⟨W, B, HSZX, HOX, HLX, HWX, hb⟩ := zBx w (ipCells V x) 24
 have HBX : Hid (IprAt W B V x) := hb
 obtain ⟨CX, hC⟩ : ∃ C, C = ipCells V x := ⟨_, rfl⟩
 rw [← hC] at HWX ⊢
 clear hb hC
 have HX : Hid (∀ i, i < 16 → x i < 256) := hx
 have H0 : Hid (IprAt W B V x ∧ Below w.heap.size w W) := ⟨HBX.out, HLX.out⟩
 obtain ⟨bv, hbv⟩ : ∃ b, vR V x = b := ⟨_, rfl⟩
 have HV : Hid (vR V x = bv) := hbv
 clear hx hbv
 go_enter Tryz.func24, Tryz.ntmps24
 go_wp2_with (first | (rw [HOX.out, HWX.out]) | (refine wpList_load_ipr (.tmp 1) rfl B V x rfl H0.out.1 rfl ?_))
 refine (validR_any V x W).mono ?_
 rintro e1 w0 ⟨rfl, b0⟩
 rw [HV.out]
 have K0 : Hid (IprAt w0 B V x ∧ Below w.heap.size w w0) := ⟨H0.out.1.below b0, bthen H0.out.2 b0⟩
 clear b0
 cases bv with
 | false =>
  have HR : Hid (clR V x = 0) := by show _ = _; unfold clR; rw [HV.out]; rfl
  go_wp2_with fail
  go_ret
  exact ⟨by rw [HR.out]; rfl, K0.out.2⟩
 | true =>
  obtain ⟨b0, hb0⟩ : ∃ b, cnR ⟨4, bt [0, 0, 0, 0], ((32 : Nat) : Int)⟩ V x = b := ⟨_, rfl⟩
  have HC0 : Hid (cnR ⟨4, bt [0, 0, 0, 0], ((32 : Nat) : Int)⟩ V x = b0) := hb0
  clear hb0
  go_wp2_with (first | (refine wpList_load_ipr (.tmp 1) rfl B V x rfl K0.out.1 rfl ?_))
  refine (of_right tx4_0 V x w0 HX.out).mono ?_
  rintro e1 w1 ⟨rfl, bb⟩
  rw [HC0.out]
  have K1 : Hid (IprAt w1 B V x ∧ Below w.heap.size w w1) := ⟨K0.out.1.below bb, bthen K0.out.2 bb⟩
  clear bb K0
  cases b0 with
  | true =>
   have HR : Hid (clR V x = 1) := by show _ = _; unfold clR; rw [HV.out, HC0.out]; rfl
   go_wp2_with fail
   go_ret
   exact ⟨by rw [HR.out]; rfl, K1.out.2⟩
  | false =>
   obtain ⟨b1, hb1⟩ : ∃ b, cnR ⟨6, bt [0, 0, 0, 0, 0, 0, 0, 0, 0, 0, 0, 0, 0, 0, 0, 0], ((128 : Nat) : Int)⟩ V x = b := ⟨_, rfl⟩
   have HC1 : Hid (cnR ⟨6, bt [0, 0, 0, 0, 0, 0, 0, 0, 0, 0, 0, 0, 0, 0, 0, 0], ((128 : Nat) : Int)⟩ V x = b1) := hb1
   clear hb1
   go_wp2_with (first | (refine wpList_load_ipr (.tmp 1) rfl B V x rfl K1.out.1 rfl ?_))
   refine (of_right tx6_0 V x w1 HX.out).mono ?_
   rintro e1 w2 ⟨rfl, bb⟩
   rw [HC1.out]
   have K2 : Hid (IprAt w2 B V x ∧ Below w.heap.size w w2) := ⟨K1.out.1.below bb, bthen K1.out.2 bb⟩
   clear bb K1
   cases b1 with
   | true =>
    have HR : Hid (clR V x = 1) := by show _ = _; unfold clR; rw [HV.out, HC0.out, HC1.out]; rfl
    go_wp2_with fail
    go_ret
    exact ⟨by rw [HR.out]; rfl, K2.out.2⟩
   | false =>
    obtain ⟨b2, hb2⟩ : ∃ b, cnR ⟨4, bt [127, 0, 0, 0], ((8 : Nat) : Int)⟩ V x = b := ⟨_, rfl⟩
    have HC2 : Hid (cnR ⟨4, bt [127, 0, 0, 0], ((8 : Nat) : Int)⟩ V x = b2) := hb2
    clear hb2
    go_wp2_with (first | (refine wpList_load_ipr (.tmp 1) rfl B V x rfl K2.out.1 rfl ?_))
    refine (of_right tx4_1 V x w2 HX.out).mono ?_
    rintro e1 w3 ⟨rfl, bb⟩
    rw [HC2.out]
    have K3 : Hid (IprAt w3 B V x ∧ Below w.heap.size w w3) := ⟨K2.out.1.below bb, bthen K2.out.2 bb⟩
    clear bb K2
    cases b2 with
    | true =>
     have HR : Hid (clR V x = 2) := by show _ = _; unfold clR; rw [HV.out, HC0.out, HC1.out, HC2.out]; rfl
     go_wp2_with fail
     go_ret
     exact ⟨by rw [HR.out]; rfl, K3.out.2⟩
    | false =>
     obtain ⟨b3, hb3⟩ : ∃ b, cnR ⟨6, bt [0, 0, 0, 0, 0, 0, 0, 0, 0, 0, 0, 0, 0, 0, 0, 1], ((128 : Nat) : Int)⟩ V x = b := ⟨_, rfl⟩
     have HC3 : Hid (cnR ⟨6, bt [0, 0, 0, 0, 0, 0, 0, 0, 0, 0, 0, 0, 0, 0, 0, 1], ((128 : Nat) : Int)⟩ V x = b3) := hb3
     clear hb3
     go_wp2_with (first | (refine wpList_load_ipr (.tmp 1) rfl B V x rfl K3.out.1 rfl ?_))
     refine (of_right tx6_1 V x w3 HX.out).mono ?_
     rintro e1 w4 ⟨rfl, bb⟩
     rw [HC3.out]
     have K4 : Hid (IprAt w4 B V x ∧ Below w.heap.size w w4) := ⟨K3.out.1.below bb, bthen K3.out.2 bb⟩
     clear bb K3
     cases b3 with
     | true =>
      have HR : Hid (clR V x = 2) := by show _ = _; unfold clR; rw [HV.out, HC0.out, HC1.out, HC2.out, HC3.out]; rfl
      go_wp2_with fail
      go_ret
      exact ⟨by rw [HR.out]; rfl, K4.out.2⟩
     | false =>
      obtain ⟨b4, hb4⟩ : ∃ b, cnR ⟨4, bt [224, 0, 0, 0], ((4 : Nat) : Int)⟩ V x = b := ⟨_, rfl⟩
      have HC4 : Hid (cnR ⟨4, bt [224, 0, 0, 0], ((4 : Nat) : Int)⟩ V x = b4) := hb4
      clear hb4
      go_wp2_with (first | (refine wpList_load_ipr (.tmp 1) rfl B V x rfl K4.out.1 rfl ?_))
      refine (of_right tx4_2 V x w4 HX.out).mono ?_
      rintro e1 w5 ⟨rfl, bb⟩
      rw [HC4.out]
      have K5 : Hid (IprAt w5 B V x ∧ Below w.heap.size w w5) := ⟨K4.out.1.below bb, bthen K4.out.2 bb⟩
      clear bb K4
      cases b4 with
      | true =>
       have HR : Hid (clR V x = 3) := by show _ = _; unfold clR; rw [HV.out, HC0.out, HC1.out, HC2.out, HC3.out, HC4.out]; rfl
       go_wp2_with fail
       go_ret
       exact ⟨by rw [HR.out]; rfl, K5.out.2⟩
      | false =>
       obtain ⟨b5, hb5⟩ : ∃ b, cnR ⟨6, bt [255, 0, 0, 0, 0, 0, 0, 0, 0, 0, 0, 0, 0, 0, 0, 0], ((8 : Nat) : Int)⟩ V x = b := ⟨_, rfl⟩
       have HC5 : Hid (cnR ⟨6, bt [255, 0, 0, 0, 0, 0, 0, 0, 0, 0, 0, 0, 0, 0, 0, 0], ((8 : Nat) : Int)⟩ V x = b5) := hb5
       clear hb5
       go_wp2_with (first | (refine wpList_load_ipr (.tmp 1) rfl B V x rfl K5.out.1 rfl ?_))
       refine (of_right tx6_2 V x w5 HX.out).mono ?_
       rintro e1 w6 ⟨rfl, bb⟩
       rw [HC5.out]
       have K6 : Hid (IprAt w6 B V x ∧ Below w.heap.size w w6) := ⟨K5.out.1.below bb, bthen K5.out.2 bb⟩
       clear bb K5
       cases b5 with
       | true =>
        have HR : Hid (clR V x = 3) := by show _ = _; unfold clR; rw [HV.out, HC0.out, HC1.out, HC2.out, HC3.out, HC4.out, HC5.out]; rfl
        go_wp2_with fail
        go_ret
        exact ⟨by rw [HR.out]; rfl, K6.out.2⟩
       | false =>
        obtain ⟨b6, hb6⟩ : ∃ b, cnR ⟨4, bt [169, 254, 0, 0], ((16 : Nat) : Int)⟩ V x = b := ⟨_, rfl⟩
        have HC6 : Hid (cnR ⟨4, bt [169, 254, 0, 0], ((16 : Nat) : Int)⟩ V x = b6) := hb6
        clear hb6
        go_wp2_with (first | (refine wpList_load_ipr (.tmp 1) rfl B V x rfl K6.out.1 rfl ?_))
        refine (of_right tx4_3 V x w6 HX.out).mono ?_
        rintro e1 w7 ⟨rfl, bb⟩
        rw [HC6.out]
        have K7 : Hid (IprAt w7 B V x ∧ Below w.heap.size w w7) := ⟨K6.out.1.below bb, bthen K6.out.2 bb⟩
        clear bb K6
        cases b6 with
        | true =>
         have HR : Hid (clR V x = 4) := by show _ = _; unfold clR; rw [HV.out, HC0.out, HC1.out, HC2.out, HC3.out, HC4.out, HC5.out, HC6.out]; rfl
         go_wp2_with fail
         go_ret
         exact ⟨by rw [HR.out]; rfl, K7.out.2⟩
        | false =>
         obtain ⟨b7, hb7⟩ : ∃ b, cnR ⟨6, bt [254, 128, 0, 0, 0, 0, 0, 0, 0, 0, 0, 0, 0, 0, 0, 0], ((10 : Nat) : Int)⟩ V x = b := ⟨_, rfl⟩
         have HC7 : Hid (cnR ⟨6, bt [254, 128, 0, 0, 0, 0, 0, 0, 0, 0, 0, 0, 0, 0, 0, 0], ((10 : Nat) : Int)⟩ V x = b7) := hb7
         clear hb7
         go_wp2_with (first | (refine wpList_load_ipr (.tmp 1) rfl B V x rfl K7.out.1 rfl ?_))
         refine (of_right tx6_3 V x w7 HX.out).mono ?_
         rintro e1 w8 ⟨rfl, bb⟩
         rw [HC7.out]
         have K8 : Hid (IprAt w8 B V x ∧ Below w.heap.size w w8) := ⟨K7.out.1.below bb, bthen K7.out.2 bb⟩
         clear bb K7
         cases b7 with
         | true =>
          have HR : Hid (clR V x = 4) := by show _ = _; unfold clR; rw [HV.out, HC0.out, HC1.out, HC2.out, HC3.out, HC4.out, HC5.out, HC6.out, HC7.out]; rfl
          go_wp2_with fail
          go_ret
          exact ⟨by rw [HR.out]; rfl, K8.out.2⟩
         | false =>
          obtain ⟨b8, hb8⟩ : ∃ b, cnR ⟨4, bt [255, 255, 255, 255], ((32 : Nat) : Int)⟩ V x = b := ⟨_, rfl⟩
          have HC8 : Hid (cnR ⟨4, bt [255, 255, 255, 255], ((32 : Nat) : Int)⟩ V x = b8) := hb8
          clear hb8
          go_wp2_with (first | (refine wpList_load_ipr (.tmp 1) rfl B V x rfl K8.out.1 rfl ?_))
          refine (of_right tx4_4 V x w8 HX.out).mono ?_
          rintro e1 w9 ⟨rfl, bb⟩
          rw [HC8.out]
          have K9 : Hid (IprAt w9 B V x ∧ Below w.heap.size w w9) := ⟨K8.out.1.below bb, bthen K8.out.2 bb⟩
          clear bb K8
          cases b8 with
          | true =>
           have HR : Hid (clR V x = 5) := by show _ = _; unfold clR; rw [HV.out, HC0.out, HC1.out, HC2.out, HC3.out, HC4.out, HC5.out, HC6.out, HC7.out, HC8.out]; rfl
           go_wp2_with fail
           go_ret
           exact ⟨by rw [HR.out]; rfl, K9.out.2⟩
          | false =>
           obtain ⟨b9, hb9⟩ : ∃ b, cnR ⟨4, bt [0, 0, 0, 0], ((8 : Nat) : Int)⟩ V x = b := ⟨_, rfl⟩
           have HC9 : Hid (cnR ⟨4, bt [0, 0, 0, 0], ((8 : Nat) : Int)⟩ V x = b9) := hb9
           clear hb9
           go_wp2_with (first | (refine wpList_load_ipr (.tmp 1) rfl B V x rfl K9.out.1 rfl ?_))
           refine (of_right tx4_5 V x w9 HX.out).mono ?_
           rintro e1 w10 ⟨rfl, bb⟩
           rw [HC9.out]
           have K10 : Hid (IprAt w10 B V x ∧ Below w.heap.size w w10) := ⟨K9.out.1.below bb, bthen K9.out.2 bb⟩
           clear bb K9
           cases b9 with
           | true =>
            have HR : Hid (clR V x = 6) := by show _ = _; unfold clR; rw [HV.out, HC0.out, HC1.out, HC2.out, HC3.out, HC4.out, HC5.out, HC6.out, HC7.out, HC8.out, HC9.out]; rfl
            go_wp2_with fail
            go_ret
            exact ⟨by rw [HR.out]; rfl, K10.out.2⟩
           | false =>
            obtain ⟨b10, hb10⟩ : ∃ b, cnR ⟨4, bt [240, 0, 0, 0], ((4 : Nat) : Int)⟩ V x = b := ⟨_, rfl⟩
            have HC10 : Hid (cnR ⟨4, bt [240, 0, 0, 0], ((4 : Nat) : Int)⟩ V x = b10) := hb10
            clear hb10
            go_wp2_with (first | (refine wpList_load_ipr (.tmp 1) rfl B V x rfl K10.out.1 rfl ?_))
            refine (of_right tx4_6 V x w10 HX.out).mono ?_
            rintro e1 w11 ⟨rfl, bb⟩
            rw [HC10.out]
            have K11 : Hid (IprAt w11 B V x ∧ Below w.heap.size w w11) := ⟨K10.out.1.below bb, bthen K10.out.2 bb⟩
            clear bb K10
            cases b10 with
            | true =>
             have HR : Hid (clR V x = 6) := by show _ = _; unfold clR; rw [HV.out, HC0.out, HC1.out, HC2.out, HC3.out, HC4.out, HC5.out, HC6.out, HC7.out, HC8.out, HC9.out, HC10.out]; rfl
             go_wp2_with fail
             go_ret
             exact ⟨by rw [HR.out]; rfl, K11.out.2⟩
            | false =>
             obtain ⟨b11, hb11⟩ : ∃ b, cnR ⟨6, bt [0, 0, 0, 0, 0, 0, 0, 0, 0, 0, 0, 0, 0, 0, 0, 0], ((8 : Nat) : Int)⟩ V x = b := ⟨_, rfl⟩
             have HC11 : Hid (cnR ⟨6, bt [0, 0, 0, 0, 0, 0, 0, 0, 0, 0, 0, 0, 0, 0, 0, 0], ((8 : Nat) : Int)⟩ V x = b11) := hb11
             clear hb11
             go_wp2_with (first | (refine wpList_load_ipr (.tmp 1) rfl B V x rfl K11.out.1 rfl ?_))
             refine (of_right tx6_4 V x w11 HX.out).mono ?_
             rintro e1 w12 ⟨rfl, bb⟩
             rw [HC11.out]
             have K12 : Hid (IprAt w12 B V x ∧ Below w.heap.size w w12) := ⟨K11.out.1.below bb, bthen K11.out.2 bb⟩
             clear bb K11
             cases b11 with
             | true =>
              have HR : Hid (clR V x = 6) := by show _ = _; unfold clR; rw [HV.out, HC0.out, HC1.out, HC2.out, HC3.out, HC4.out, HC5.out, HC6.out, HC7.out, HC8.out, HC9.out, HC10.out, HC11.out]; rfl
              go_wp2_with fail
              go_ret
              exact ⟨by rw [HR.out]; rfl, K12.out.2⟩
             | false =>
              have HR : Hid (clR V x = 7) := by show _ = _; unfold clR; rw [HV.out, HC0.out, HC1.out, HC2.out, HC3.out, HC4.out, HC5.out, HC6.out, HC7.out, HC8.out, HC9.out, HC10.out, HC11.out]; rfl
              go_wp2_with fail
              go_ret
              exact ⟨by rw [HR.out]; rfl, K12.out.2⟩
end Go.Proofs.YtclpeepnngegaaaGreatDoor
