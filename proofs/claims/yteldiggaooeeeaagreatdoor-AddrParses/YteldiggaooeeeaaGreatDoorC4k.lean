/-
  weirref4: sixes, of any text.
-/
import Derived.Test.YteldiggaooeeeaaGreatDoorC4i
import Derived.Test.YteldiggaooeeeaaGreatDoorZba
import Derived.Test.YteldiggaooeeeaaGreatDoorZx
import Derived.Test.YteldiggaooeeeaaGreatDoorZg
namespace Go.Proofs.YteldiggaooeeeaaGreatDoor
open Go.RowKit Go.Maps

def sixO (s : ByteArray) : Value := match sxR (sxL s) s.size with
  | .inl x => .tuple #[.agg (arCells x), .int .i64 0, .int .i64 0]
  | .inr e => .tuple #[.agg (arCells fun _ => 0), .int .i64 (e.1 : Nat), .int .i64 (e.2 : Nat)]
theorem six_er {s : ByteArray} {X : SX} (hx : sxL s = X) (he : X.er ≠ 0) : sixO s = .tuple #[.agg (arCells fun _ => 0), .int .i64 (X.er : Nat), .int .i64 (X.pl : Nat)] := by unfold sixO sxR; rw [hx, if_pos he]
theorem six_cut {s : ByteArray} {X : SX} (hx : sxL s = X) (he : X.er = 0) (hg : X.gap < 0) (hn : X.g.length < 8) : sixO s = .tuple #[.agg (arCells fun _ => 0), .int .i64 42, .int .i64 (s.size : Nat)] := by unfold sixO sxR; rw [hx, if_neg (by omega), if_pos ⟨hg, hn⟩]; rfl
theorem six_ok {s : ByteArray} {X : SX} (hx : sxL s = X) (he : X.er = 0) (h : ¬ (X.gap < 0 ∧ X.g.length < 8)) : sixO s = .tuple #[.agg (arCells (fil X X.g.length)), .int .i64 0, .int .i64 0] := by unfold sixO sxR; rw [hx, if_neg (by omega), if_neg h]
set_option maxHeartbeats 1600000 in
set_option maxRecDepth 100000 in
theorem sixes6_any (s : ByteArray) (w : World) (hs : s.size ≤ 1000) : Calls Tryz.prog 75 #[.string s] w fun r w' => r = .returned (sixO s) ∧ Below w.heap.size w w' := by
  have HS : Hid (s.size ≤ 1000) := hs
  clear hs
  have b1 := arAt_new w (arCells fun _ => 0)
  have b2 := arAt_new (w.alloc (.cells (arCells fun _ => 0) 26)) (arCells fun _ => 0)
  have l1 : Below w.heap.size w (w.alloc (.cells (arCells fun _ => 0) 26)) := (Below.refl _ _).alloc (Nat.le_refl _) _
  obtain ⟨W1, hW1⟩ : ∃ W1, W1 = w.alloc (.cells (arCells fun _ => 0) 26) := ⟨_, rfl⟩
  rw [← hW1] at b1 b2 l1
  obtain ⟨W2, hW2⟩ : ∃ W2, W2 = W1.alloc (.cells (arCells fun _ => 0) 26) := ⟨_, rfl⟩
  have l2 : Below W1.heap.size W1 W2 := by rw [hW2]; exact (Below.refl _ _).alloc (Nat.le_refl _) _
  rw [← hW2] at b2
  obtain ⟨W, hW⟩ : ∃ W, W = W2.alloc (.cells (sxC s (.slice none 0 0) ⟨[], -1, 0, 0, 0⟩) 147) := ⟨_, rfl⟩
  have l3 : Below W2.heap.size W2 W := by rw [hW]; exact (Below.refl _ _).alloc (Nat.le_refl _) _
  have sx : SxAt W W2.heap.size s (.slice none 0 0) ⟨[], -1, 0, 0, 0⟩ := ⟨by rw [hW]; exact heap_alloc_new _ _, World.ownsRow_nil _ _ _ _⟩
  have z1 : W1.heap.size = w.heap.size + 1 := by rw [hW1, World.size_alloc]
  have z2 : W2.heap.size = w.heap.size + 2 := by rw [hW2, World.size_alloc, z1]
  obtain ⟨B, hB⟩ : ∃ B, w.heap.size = B := ⟨_, rfl⟩
  obtain ⟨D, hD⟩ : ∃ D, W1.heap.size = D := ⟨_, rfl⟩
  obtain ⟨R, hR⟩ : ∃ R, W2.heap.size = R := ⟨_, rfl⟩
  have HOB : Hid (w.heap.size = B) := hB
  have HOD : Hid (W1.heap.size = D) := hD
  have HOR : Hid (W2.heap.size = R) := hR
  have HRD : Hid (B < D ∧ D < R) := by show B < D ∧ D < R; omega
  rw [hB] at b1
  rw [hD] at b2
  rw [hR] at sx
  have H0 : Hid (SxAt W R s (.slice none 0 0) ⟨[], -1, 0, 0, 0⟩ ∧ ArAt W B (arCells fun _ => 0) ∧ ArAt W D (arCells fun _ => 0) ∧ Below w.heap.size w W) := ⟨sx, (b1.below l2).below l3, b2.below l3, bthen (bthen l1 l2) l3⟩
  have HW1 : Hid (w.alloc (.cells #[.int .u8 0, .int .u8 0, .int .u8 0, .int .u8 0, .int .u8 0, .int .u8 0, .int .u8 0, .int .u8 0, .int .u8 0, .int .u8 0, .int .u8 0, .int .u8 0, .int .u8 0, .int .u8 0, .int .u8 0, .int .u8 0] 26) = W1) := hW1.symm
  have HW2 : Hid (W1.alloc (.cells #[.int .u8 0, .int .u8 0, .int .u8 0, .int .u8 0, .int .u8 0, .int .u8 0, .int .u8 0, .int .u8 0, .int .u8 0, .int .u8 0, .int .u8 0, .int .u8 0, .int .u8 0, .int .u8 0, .int .u8 0, .int .u8 0] 26) = W2) := hW2.symm
  have HW3 : Hid (W2.alloc (.cells #[.string s, .slice none 0 0, .int .i64 (-1), .int .i64 0, .int .i64 0, .int .i64 0] 147) = W) := hW.symm
  obtain ⟨b, hb⟩ : ∃ b, twB s 0 = b := ⟨_, rfl⟩
  have HB0 : Hid (twB s 0 = b) := hb
  clear b1 b2 l1 l2 l3 sx z1 z2 hB hD hR hW1 hW2 hW hb
  go_enter Tryz.func75, Tryz.ntmps75
  go_upto_region 1 with fail
  rw [HOB.out, HW1.out]
  go_upto_region 2 with fail
  rw [HOD.out, HW2.out]
  go_upto_region 3 with fail
  rw [HOR.out, HW3.out]
  go_wp2_with fail
  refine (two_any s 0 W (by omega)).mono ?_
  rintro e1 wz ⟨rfl, rfl⟩
  rw [HB0.out]
  cases b with
  | true =>
    have HX0 : Hid (sx0 s = (⟨[], 0, 2, 0, 0⟩, s.size == 2)) := by show _ = _; unfold sx0; rw [HB0.out]; rfl
    have f2 := H0.out.1.fz 2
    have c2 := H0.out.1.c2
    obtain ⟨w2, hw2⟩ : ∃ w2, w2 = W.setCell ⟨R, 2, none⟩ (.int .i64 0) := ⟨_, rfl⟩
    have H1 : Hid (SxAt w2 R s (.slice none 0 0) ⟨[], 0, 0, 0, 0⟩) := by rw [hw2]; exact H0.out.1.set 2 _ rfl rfl
    have f3 := H1.out.fz 3
    have c3 := H1.out.c3
    obtain ⟨w3, hw3⟩ : ∃ w3, w3 = w2.setCell ⟨R, 3, none⟩ (.int .i64 2) := ⟨_, rfl⟩
    have k3 : Ch (fun q => q = R) W w3 := by rw [hw3, hw2]; exact ((Ch.refl (fun q => q = R) W).set ⟨R, 2, none⟩ _ rfl).set ⟨R, 3, none⟩ _ rfl
    have H2 : Hid (SxAt w3 R s (.slice none 0 0) ⟨[], 0, 2, 0, 0⟩ ∧ ArAt w3 B (arCells fun _ => 0) ∧ ArAt w3 D (arCells fun _ => 0) ∧ Below w.heap.size w w3) := by
      have hR := HRD.out
      have hB := HOB.out
      refine ⟨by rw [hw3]; exact H1.out.set 3 _ rfl rfl, H0.out.2.1.ch k3 (by omega), H0.out.2.2.1.ch k3 (by omega), H0.out.2.2.2.trans (k3.below (fun x hx => by omega) H0.out.2.2.2.size)⟩
    have HWa : Hid (W.setCell ⟨R, 2, none⟩ (.int .i64 0) = w2) := hw2.symm
    have HWb : Hid (w2.setCell ⟨R, 3, none⟩ (.int .i64 2) = w3) := hw3.symm
    clear hw2 hw3 k3
    obtain ⟨dn, hdn⟩ : ∃ dn, (s.size == 2) = dn := ⟨_, rfl⟩
    have HDN : Hid ((s.size == 2) = dn) := hdn
    have q1 : ((s.size : Int) == 2) = dn := by rw [← hdn, Bool.eq_iff_iff]; simp; omega
    clear hdn
    go_upto_region 7 with fail
    rw [HWa.out]
    go_upto_region 8 with fail
    rw [HWb.out]
    clear f2 c2 f3 c3
    go_wp2
    go_loopw [7] (fun dv wr => ∃ (X : SX) (d : Bool) (lv : Value) (f : Nat), dv = .bool d ∧ Hid (SxOk s X ∧ slp s f (X, d) = sxL s ∧ mZ s (X, d) ≤ f) ∧ Hid (SxAt wr R s lv X ∧ ArAt wr B (arCells fun _ => 0) ∧ ArAt wr D (arCells fun _ => 0) ∧ Below w.heap.size w wr)) (fun dv wr => sxM s R dv wr)
    case atStart => exact ⟨⟨[], 0, 2, 0, 0⟩, dn, .slice none 0 0, s.size + 1, rfl, ⟨by have := sx0_ok s; rw [HX0.out] at this; exact this, by unfold sxL; rw [HX0.out, HDN.out], by have := sx0_m s; rw [HX0.out, HDN.out] at this; exact this⟩, H2.out⟩
    case round =>
      obtain ⟨X, d, lv, f, rfl, HI, HA⟩ := hrel
      have HOK : Hid (SxOk s X) := HI.out.1
      cases d with
      | true =>
        have HXE : Hid (sxL s = X) := by show _ = _; rw [← HI.out.2.1]; exact slp_end rfl f
        by_cases he : X.er = 0
        · have HER : Hid (X.er = 0) := he
          clear he
          obtain ⟨N, hN⟩ : ∃ N, N = X.g.length := ⟨_, rfl⟩
          obtain ⟨a, c, hlv⟩ := owns_shape HA.out.1.own
          rw [← hN] at hlv
          subst hlv
          have HN : Hid (N = X.g.length) := hN
          have HN8 : Hid (N ≤ 8) := by show N ≤ 8; rw [hN]; exact HOK.out.l
          obtain ⟨G, hG⟩ : ∃ G, X.gap = G := ⟨_, rfl⟩
          have HG : Hid (X.gap = G) := hG
          have c4 : wr.cell? ⟨R, 4, none⟩ = some (.int .i64 0) := HA.out.1.c4.trans (by rw [HER.out]; rfl)
          have c2 : wr.cell? ⟨R, 2, none⟩ = some (.int .i64 G) := HA.out.1.c2.trans (by rw [hG])
          have c1 := HA.out.1.c1
          clear hN hG
          by_cases hg : G < 0
          · have q1 : decide (G < 0) = true := decide_eq_true hg
            by_cases hn : N < 8
            · have HRES : Hid (sixO s = .tuple #[.agg (arCells fun _ => 0), .int .i64 42, .int .i64 (s.size : Nat)]) := six_cut HXE.out HER.out (by rw [HG.out]; exact hg) (by rw [← HN.out]; exact hn)
              have q2 : decide ((N : Int) < 8) = true := decide_eq_true (by omega)
              have q3 : (N : Int) < 8 := by omega
              have q4 : decide (N < 8) = true := decide_eq_true hn
              clear hg hn
              go_wp2_with fail
              refine (fail_any R s (.slice a N c) X 42 s.size wr HA.out.1).mono ?_
              rintro e3 w5 ⟨rfl, k1, k2⟩
              have HF42 : Hid ((X.fail 42 s.size).er = 42 ∧ (X.fail 42 s.size).pl = s.size) := by show (X.fail 42 s.size).er = 42 ∧ (X.fail 42 s.size).pl = s.size; unfold SX.fail; rw [HER.out]; exact ⟨rfl, rfl⟩
              obtain ⟨Y, hY⟩ : ∃ Y, X.fail 42 s.size = Y := ⟨_, rfl⟩
              rw [hY] at k1
              have HY : Hid (Y.er = 42 ∧ Y.pl = s.size) := by have := HF42.out; rw [hY] at this; exact this
              have HA5 : Hid (SxAt w5 R s (.slice a N c) Y ∧ ArAt w5 B (arCells fun _ => 0) ∧ ArAt w5 D (arCells fun _ => 0) ∧ Below w.heap.size w w5) := by
                have hR := HRD.out
                have hB := HOB.out
                exact ⟨k1, HA.out.2.1.ch k2 (by omega), HA.out.2.2.1.ch k2 (by omega), HA.out.2.2.2.trans (k2.below (fun x hx => by omega) HA.out.2.2.2.size)⟩
              clear k1 k2 c1 c2 c4 hY
              have c4 : w5.cell? ⟨R, 4, none⟩ = some (.int .i64 42) := HA5.out.1.c4.trans (by rw [HY.out.1]; rfl)
              have HE4 : Hid (some (Value.int .i64 ((Y.er : Nat) : Int)) = some (Value.int .i64 42)) := by show _ = _; rw [HY.out.1]; rfl
              have HE5 : Hid (some (Value.int .i64 ((Y.pl : Nat) : Int)) = some (Value.int .i64 ((s.size : Nat) : Int))) := by show _ = _; rw [HY.out.2]
              go_upto_region 16 with fail
              refine MixH.start (fun A => SxAt A R s (.slice a N c) Y ∧ ArAt A B (arCells fun _ => 0) ∧ ArAt A D (arCells fun _ => 0) ∧ Below w.heap.size w A) (by kernel_rfl) ?_
              obtain ⟨wE, hwA⟩ : ∃ W_, W_ = w5.drew := ⟨_, rfl⟩
              have bdr : Below w5.heap.size w5 wE := by rw [hwA]; exact (Below.refl _ _).drew
              have hS : SxAt wE R s (.slice a N c) Y ∧ ArAt wE B (arCells fun _ => 0) ∧ ArAt wE D (arCells fun _ => 0) ∧ Below w.heap.size w wE := ⟨HA5.out.1.below bdr, HA5.out.2.1.below bdr, HA5.out.2.2.1.below bdr, HA5.out.2.2.2.trans (bdr.mono HA5.out.2.2.2.size)⟩
              rw [← hwA]
              clear hwA bdr
              refine MixH.takes [false, true, true, true, false, true, true, true] 6 (by kernel_rfl) (by kernel_rfl) (by decide) (by kernel_rfl) hS (fun K hK => ?_)
              simp only [Mix.pick]
              repeat (go_big_quiet_step (fail))
              refine wpQuiet_nil (hK _ ?_)
              clear hK K
              refine MixH.take 5 0 _ (.agg (arCells fun _ => 0)) rfl (by kernel_rfl) (by kernel_rfl) (by kernel_rfl) (by kernel_rfl) (yields_ar (.tmp 5) rfl D 0 (fun _ => 0) rfl rfl (fun A hA => hA.2.2.1.range)) hS (fun a' ha => ?_)
              simp only [Act.put, List.setIfInBounds_toArray, List.set_cons_succ, List.set_cons_zero] at ha
              subst ha
              refine MixH.take 4 4 _ (.int .i64 42) rfl (by kernel_rfl) (by kernel_rfl) (by kernel_rfl) (by kernel_rfl) (yields_int (.tmp 80) rfl ⟨R, 4, none⟩ (.int .i64 42) rfl rfl (fun A hA => hA.1.c4.trans HE4.out)) hS (fun a' ha => ?_)
              simp only [Act.put, List.setIfInBounds_toArray, List.set_cons_succ, List.set_cons_zero] at ha
              subst ha
              refine MixH.take 3 8 _ (.int .i64 (s.size : Nat)) rfl (by kernel_rfl) (by kernel_rfl) (by kernel_rfl) (by kernel_rfl) (yields_int (.tmp 84) rfl ⟨R, 5, none⟩ (.int .i64 (s.size : Nat)) rfl rfl (fun A hA => hA.1.c5.trans HE5.out)) hS (fun a' ha => ?_)
              simp only [Act.put, List.setIfInBounds_toArray, List.set_cons_succ, List.set_cons_zero] at ha
              subst ha
              refine MixH.one [false, false, false, false, false, false, false, false, false, true] 2 9 _ rfl rfl (by kernel_rfl) (by kernel_rfl) (fun K hK => ?_)
              simp only [Mix.pick]
              go_wp2_with (refine wpList_store_ar (.tmp 2) (.tmp 77) rfl rfl B (fun _ => 0) (fun _ => 0) rfl rfl hS.2.1 rfl ?_)
              intro w7 h7 k7
              have hS : SxAt w7 R s (.slice a N c) Y ∧ ArAt w7 B (arCells fun _ => 0) ∧ ArAt w7 D (arCells fun _ => 0) ∧ Below w.heap.size w w7 := by
                have hR := HRD.out
                have hB := HOB.out
                exact ⟨hS.1.ch k7 (by omega) (fun q hq => by omega), h7, hS.2.2.1.ch k7 (by omega), hS.2.2.2.trans (k7.below (fun x hx => by omega) hS.2.2.2.size)⟩
              clear h7 k7
              go_wp2_with fail
              refine ⟨rfl, hK _ _ hS ?_⟩
              clear hK K
              refine MixH.takes [false, false, false, false, false, false, false, false, false, false, true, true] 0 (by kernel_rfl) (by kernel_rfl) (by decide) (by kernel_rfl) hS (fun K hK => ?_)
              simp only [Mix.pick]
              repeat (go_big_quiet_step (fail))
              refine wpQuiet_nil (hK _ ?_)
              clear hK K
              refine MixH.done (by kernel_rfl) ?_
              have H7 : Hid (SxAt w7 R s (.slice a N c) Y ∧ ArAt w7 B (arCells fun _ => 0) ∧ ArAt w7 D (arCells fun _ => 0) ∧ Below w.heap.size w w7) := hS
              clear hS c4
              go_wp2_with fail
              refine bodyPost_ret (results_ar3 rfl _ _ B _ rfl H7.out.2.1) rfl ?_
              exact ⟨by rw [HRES.out]; rfl, H7.out.2.2.2⟩
            · have HN7 : Hid (¬ N < 8) := hn
              have HRES : Hid (sixO s = .tuple #[.agg (arCells (fil X X.g.length)), .int .i64 0, .int .i64 0]) := six_ok HXE.out HER.out (by rw [← HN.out]; omega)
              have q2 : decide ((N : Int) < 8) = false := decide_eq_false (by have := HN7.out; omega)
              have q3 : ¬ (N : Int) < 8 := by have := HN7.out; omega
              clear hg hn
              go_wp2
              go_loopw [9] (fun iv wf => ∃ i : Nat, i ≤ N ∧ iv = .int .i64 (i : Nat) ∧ Hid (SxAt wf R s (.slice a N c) X ∧ ArAt wf B (arCells fun _ => 0) ∧ ArAt wf D (arCells (fil X i)) ∧ Below w.heap.size w wf)) (fun iv _ => N - (intOf iv).toNat)
              case atStart => exact ⟨0, Nat.zero_le _, rfl, ⟨HA.out.1, HA.out.2.1, HA.out.2.2.1, HA.out.2.2.2⟩⟩
              case round =>
                obtain ⟨i, hi, rfl, HF⟩ := hrel
                clear c1 c2 c4
                by_cases hil : i < N
                · have p1 : decide ((i : Int) < (N : Int)) = true := decide_eq_true (by omega)
                  have p2 : decide (i < N) = true := decide_eq_true hil
                  have HIL : Hid (i < N) := hil
                  have w1 : IntKind.i64.wrap ((i : Int) + 1) = (i : Int) + 1 := i64_s _ (by omega) (by have := HN8.out; omega)
                  obtain ⟨k, hk⟩ : ∃ k, kI X i = k := ⟨_, rfl⟩
                  have HK : Hid (kI X i = k) := hk
                  have HK8 : Hid (k < 8) := by
                    show k < 8
                    rw [← hk]
                    unfold kI
                    have h1 := HN8.out
                    rw [← HN.out]
                    split <;> omega
                  have HSH : Hid (∃ g, a = some ⟨g, 0, none⟩ ∧ R + 1 ≤ g) := by
                    rcases HF.out.1.own.2 with ⟨h1, h2⟩ | ⟨g, cap, cur, hv, hg, r⟩
                    · simp at h1
                      have := h1.2.1
                      omega
                    · simp at hv
                      exact ⟨g, hv.1, hg⟩
                  obtain ⟨g, hga, hgR⟩ := HSH.out
                  subst hga
                  have HGR : Hid (R + 1 ≤ g) := hgR
                  obtain ⟨v, hv⟩ : ∃ v, X.g.getD i 0 = v := ⟨_, rfl⟩
                  have HV : Hid (X.g.getD i 0 = v) := hv
                  have HV6 : Hid (v < 65536) := by
                    show v < 65536
                    have hl : i < X.g.length := by rw [← HN.out]; exact hil
                    rw [← hv, List.getD_eq_getElem?_getD, List.getElem?_eq_getElem hl]
                    exact HOK.out.b _ (List.getElem_mem hl)
                  have HCE : Hid (∀ ww, SxAt ww R s (.slice (some ⟨g, 0, none⟩) N c) X → ww.cell? ⟨g, i, none⟩ = some (.int .i64 (v : Nat))) := fun ww hww => by
                    have hl : i < X.g.length := by rw [← HN.out]; exact HIL.out
                    have ho := hww.own
                    rw [← HN.out] at ho
                    have h1 := ho.cellAt i (by simpa using HIL.out)
                    rw [h1, List.getElem?_map, List.getElem?_eq_getElem hl, ← HV.out, List.getD_eq_getElem?_getD, List.getElem?_eq_getElem hl]
                    rfl
                  have c1 := HF.out.1.c1
                  have c2 : wr.cell? ⟨R, 2, none⟩ = some (.int .i64 G) := HF.out.1.c2.trans (by rw [HG.out])
                  have ce := HCE.out wr HF.out.1
                  obtain ⟨d1, hd1⟩ : ∃ d : Nat, d = v / 256 := ⟨_, rfl⟩
                  obtain ⟨d2, hd2⟩ : ∃ d : Nat, d = v % 256 := ⟨_, rfl⟩
                  have HD : Hid (d1 = v / 256 ∧ d2 = v % 256) := ⟨hd1, hd2⟩
                  have t1 : Int.tdiv (v : Int) 256 = (d1 : Int) := by rw [Int.tdiv_eq_ediv_of_nonneg (by omega)]; omega
                  have t2 : Int.tmod (v : Int) 256 = (d2 : Int) := by rw [Int.tmod_eq_emod_of_nonneg (by omega)]; omega
                  have t3 : IntKind.u8.wrap (d1 : Int) = (d1 : Int) := u8_s _ (by omega) (by have := HV6.out; omega)
                  have t4 : IntKind.u8.wrap (d2 : Int) = (d2 : Int) := u8_s _ (by omega) (by omega)
                  have t5 : IntKind.i64.wrap (d1 : Int) = (d1 : Int) := i64_s _ (by omega) (by have := HV6.out; omega)
                  have t6 : IntKind.i64.wrap (d2 : Int) = (d2 : Int) := i64_s _ (by omega) (by omega)
                  obtain ⟨k2, hk2⟩ : ∃ k2, k2 = 2 * k := ⟨_, rfl⟩
                  have HK2 : Hid (k2 = 2 * k) := hk2
                  have s1 : IntKind.i64.wrap (2 * (k : Int)) = (k2 : Int) := by rw [i64_s _ (by omega) (by have := HK8.out; omega)]; omega
                  have s2 : IntKind.i64.wrap ((k2 : Int) + 1) = (k2 : Int) + 1 := i64_s _ (by omega) (by have := HK8.out; omega)
                  have l1 : (k2 : Int) < 16 := by have := HK8.out; omega
                  have l2 : (k2 : Int) + 1 < 16 := by have := HK8.out; omega
                  have P1 := HF.out.2.2.1.put k2 (y := up1 (fil X i) k2 d1) (by have := HK8.out; omega) (fun j hj => by unfold up1; rw [if_neg hj])
                  have e1 : up1 (fil X i) k2 d1 k2 = d1 := by unfold up1; rw [if_pos rfl]
                  rw [e1] at P1
                  have f1 := HF.out.2.2.1.fz k2
                  have g1 := HF.out.2.2.1.get k2 (by have := HK8.out; omega)
                  obtain ⟨w5, hw5⟩ : ∃ w5, w5 = wr.setCell ⟨D, k2, none⟩ (.int .u8 (d1 : Nat)) := ⟨_, rfl⟩
                  rw [← hw5] at P1
                  have HW5 : Hid (wr.setCell ⟨D, k2, none⟩ (.int .u8 (d1 : Nat)) = w5) := hw5.symm
                  have H5 : Hid (SxAt w5 R s (.slice (some ⟨g, 0, none⟩) N c) X ∧ ArAt w5 B (arCells fun _ => 0) ∧ ArAt w5 D (arCells (up1 (fil X i) k2 d1)) ∧ Below w.heap.size w w5) := by
                    have hR := HRD.out
                    have hB := HOB.out
                    exact ⟨HF.out.1.ch P1.2 (by omega) (fun q hq => by omega), HF.out.2.1.ch P1.2 (by omega), P1.1, HF.out.2.2.2.trans (P1.2.below (fun x hx => by omega) HF.out.2.2.2.size)⟩
                  have P2 := H5.out.2.2.1.put (k2 + 1) (y := fil X (i + 1)) (by have := HK8.out; omega) (fun j hj => by
                    show up1 (up1 (fil X i) (2 * kI X i) _) (2 * kI X i + 1) _ j = _
                    rw [HK.out, HV.out, ← HK2.out, ← HD.out.1]
                    exact up1_ne hj)
                  have e2 : fil X (i + 1) (k2 + 1) = d2 := by
                    show up1 (up1 (fil X i) (2 * kI X i) _) (2 * kI X i + 1) _ (k2 + 1) = _
                    rw [HK.out, HV.out, ← HK2.out, ← HD.out.2]
                    exact if_pos rfl
                  rw [e2] at P2
                  have f2 := H5.out.2.2.1.fz (k2 + 1)
                  have g2 := H5.out.2.2.1.get (k2 + 1) (by have := HK8.out; omega)
                  have c1' := H5.out.1.c1
                  have ce' := HCE.out w5 H5.out.1
                  obtain ⟨w6, hw6⟩ : ∃ w6, w6 = w5.setCell ⟨D, k2 + 1, none⟩ (.int .u8 (d2 : Nat)) := ⟨_, rfl⟩
                  rw [← hw6] at P2
                  have HW6 : Hid (w5.setCell ⟨D, k2 + 1, none⟩ (.int .u8 (d2 : Nat)) = w6) := hw6.symm
                  have H6 : Hid (SxAt w6 R s (.slice (some ⟨g, 0, none⟩) N c) X ∧ ArAt w6 B (arCells fun _ => 0) ∧ ArAt w6 D (arCells (fil X (i + 1))) ∧ Below w.heap.size w w6) := by
                    have hR := HRD.out
                    have hB := HOB.out
                    exact ⟨H5.out.1.ch P2.2 (by omega) (fun q hq => by omega), H5.out.2.1.ch P2.2 (by omega), P2.1, H5.out.2.2.2.trans (P2.2.below (fun x hx => by omega) H5.out.2.2.2.size)⟩
                  clear P1 P2 hw5 hw6 hv hk hk2 hd1 hd2 hil hgR e1 e2
                  by_cases hgap : 0 ≤ G ∧ G ≤ (i : Int)
                  · have q1 : decide (0 ≤ G) = true := decide_eq_true hgap.1
                    have q2 : decide (G ≤ (i : Int)) = true := decide_eq_true hgap.2
                    have s3 : IntKind.i64.wrap (8 - (N : Int)) = 8 - (N : Int) := i64_s _ (by have := HN8.out; omega) (by omega)
                    have s4 : IntKind.i64.wrap (8 - (N : Int) + (i : Int)) = (k : Int) := by
                      have h1 := HK.out
                      have h2 := HN8.out
                      have h3 := HIL.out
                      unfold kI at h1
                      rw [HG.out, q1, q2, ← HN.out] at h1
                      simp at h1
                      rw [i64_s _ (by omega) (by omega)]
                      omega
                    clear hgap
                    go_upto_region 24 with fail
                    rw [HW5.out]
                    go_upto_region 19 with fail
                    rw [HW6.out]
                    clear f1 f2 g1 g2 c1 c2 ce c1' ce'
                    go_wp2_with fail
                    go_roundw
                    case rel => exact ⟨i + 1, HIL.out, by simp, H6.out⟩
                    case measure => have := HIL.out; simp [intOf]; omega
                  · have s4 : (i : Int) = (k : Int) := by
                      have h1 := HK.out
                      unfold kI at h1
                      rw [HG.out, if_neg (by simp; omega)] at h1
                      omega
                    by_cases hg0 : 0 ≤ G
                    · have q1 : decide (0 ≤ G) = true := decide_eq_true hg0
                      have q2 : decide (G ≤ (i : Int)) = false := decide_eq_false (by omega)
                      obtain rfl : i = k := by omega
                      clear hgap hg0 s4
                      go_upto_region 24 with fail
                      rw [HW5.out]
                      go_upto_region 19 with fail
                      rw [HW6.out]
                      clear f1 f2 g1 g2 c1 c2 ce c1' ce'
                      go_wp2_with fail
                      go_roundw
                      case rel => exact ⟨i + 1, HIL.out, by simp, H6.out⟩
                      case measure => have := HIL.out; simp [intOf]; omega
                    · have q1 : decide (0 ≤ G) = false := decide_eq_false hg0
                      obtain rfl : i = k := by omega
                      clear hgap hg0 s4
                      go_upto_region 24 with fail
                      rw [HW5.out]
                      go_upto_region 19 with fail
                      rw [HW6.out]
                      clear f1 f2 g1 g2 c1 c2 ce c1' ce'
                      go_wp2_with fail
                      go_roundw
                      case rel => exact ⟨i + 1, HIL.out, by simp, H6.out⟩
                      case measure => have := HIL.out; simp [intOf]; omega
                · have p1 : decide ((i : Int) < (N : Int)) = false := decide_eq_false (by omega)
                  have p2 : decide (i < N) = false := decide_eq_false hil
                  have c1 := HF.out.1.c1
                  have HIN : Hid (i = X.g.length) := by show _ = _; rw [← HN.out]; omega
                  clear hil hi
                  go_wp2_with (first | (refine wpList_load_ar (.tmp 5) rfl D 0 (fil X i) rfl HF.out.2.2.1.range rfl ?_) | (refine wpList_store_ar (.tmp 2) (.tmp 142) rfl rfl B (fun _ => 0) (fil X i) rfl rfl HF.out.2.1 rfl ?_))
                  intro w7 h7 k7
                  have H7 : Hid (ArAt w7 B (arCells (fil X i)) ∧ Below w.heap.size w w7) := ⟨h7, HF.out.2.2.2.trans (k7.below (fun x hx => by have := HOB.out; omega) HF.out.2.2.2.size)⟩
                  clear h7 k7
                  go_wp2_with fail
                  refine bodyPost_ret (results_ar3 rfl _ _ B _ rfl H7.out.1) rfl ?_
                  exact ⟨by rw [HRES.out, ← HIN.out]; rfl, H7.out.2⟩
          · have q1 : decide (G < 0) = false := decide_eq_false hg
            have HRES : Hid (sixO s = .tuple #[.agg (arCells (fil X X.g.length)), .int .i64 0, .int .i64 0]) := six_ok HXE.out HER.out (by rw [HG.out]; exact fun h => hg h.1)
            clear hg
            go_wp2
            go_loopw [9] (fun iv wf => ∃ i : Nat, i ≤ N ∧ iv = .int .i64 (i : Nat) ∧ Hid (SxAt wf R s (.slice a N c) X ∧ ArAt wf B (arCells fun _ => 0) ∧ ArAt wf D (arCells (fil X i)) ∧ Below w.heap.size w wf)) (fun iv _ => N - (intOf iv).toNat)
            case atStart => exact ⟨0, Nat.zero_le _, rfl, ⟨HA.out.1, HA.out.2.1, HA.out.2.2.1, HA.out.2.2.2⟩⟩
            case round =>
              obtain ⟨i, hi, rfl, HF⟩ := hrel
              clear c1 c2 c4
              by_cases hil : i < N
              · have p1 : decide ((i : Int) < (N : Int)) = true := decide_eq_true (by omega)
                have p2 : decide (i < N) = true := decide_eq_true hil
                have HIL : Hid (i < N) := hil
                have w1 : IntKind.i64.wrap ((i : Int) + 1) = (i : Int) + 1 := i64_s _ (by omega) (by have := HN8.out; omega)
                obtain ⟨k, hk⟩ : ∃ k, kI X i = k := ⟨_, rfl⟩
                have HK : Hid (kI X i = k) := hk
                have HK8 : Hid (k < 8) := by
                  show k < 8
                  rw [← hk]
                  unfold kI
                  have h1 := HN8.out
                  rw [← HN.out]
                  split <;> omega
                have HSH : Hid (∃ g, a = some ⟨g, 0, none⟩ ∧ R + 1 ≤ g) := by
                  rcases HF.out.1.own.2 with ⟨h1, h2⟩ | ⟨g, cap, cur, hv, hg, r⟩
                  · simp at h1
                    have := h1.2.1
                    omega
                  · simp at hv
                    exact ⟨g, hv.1, hg⟩
                obtain ⟨g, hga, hgR⟩ := HSH.out
                subst hga
                have HGR : Hid (R + 1 ≤ g) := hgR
                obtain ⟨v, hv⟩ : ∃ v, X.g.getD i 0 = v := ⟨_, rfl⟩
                have HV : Hid (X.g.getD i 0 = v) := hv
                have HV6 : Hid (v < 65536) := by
                  show v < 65536
                  have hl : i < X.g.length := by rw [← HN.out]; exact hil
                  rw [← hv, List.getD_eq_getElem?_getD, List.getElem?_eq_getElem hl]
                  exact HOK.out.b _ (List.getElem_mem hl)
                have HCE : Hid (∀ ww, SxAt ww R s (.slice (some ⟨g, 0, none⟩) N c) X → ww.cell? ⟨g, i, none⟩ = some (.int .i64 (v : Nat))) := fun ww hww => by
                  have hl : i < X.g.length := by rw [← HN.out]; exact HIL.out
                  have ho := hww.own
                  rw [← HN.out] at ho
                  have h1 := ho.cellAt i (by simpa using HIL.out)
                  rw [h1, List.getElem?_map, List.getElem?_eq_getElem hl, ← HV.out, List.getD_eq_getElem?_getD, List.getElem?_eq_getElem hl]
                  rfl
                have c1 := HF.out.1.c1
                have c2 : wr.cell? ⟨R, 2, none⟩ = some (.int .i64 G) := HF.out.1.c2.trans (by rw [HG.out])
                have ce := HCE.out wr HF.out.1
                obtain ⟨d1, hd1⟩ : ∃ d : Nat, d = v / 256 := ⟨_, rfl⟩
                obtain ⟨d2, hd2⟩ : ∃ d : Nat, d = v % 256 := ⟨_, rfl⟩
                have HD : Hid (d1 = v / 256 ∧ d2 = v % 256) := ⟨hd1, hd2⟩
                have t1 : Int.tdiv (v : Int) 256 = (d1 : Int) := by rw [Int.tdiv_eq_ediv_of_nonneg (by omega)]; omega
                have t2 : Int.tmod (v : Int) 256 = (d2 : Int) := by rw [Int.tmod_eq_emod_of_nonneg (by omega)]; omega
                have t3 : IntKind.u8.wrap (d1 : Int) = (d1 : Int) := u8_s _ (by omega) (by have := HV6.out; omega)
                have t4 : IntKind.u8.wrap (d2 : Int) = (d2 : Int) := u8_s _ (by omega) (by omega)
                have t5 : IntKind.i64.wrap (d1 : Int) = (d1 : Int) := i64_s _ (by omega) (by have := HV6.out; omega)
                have t6 : IntKind.i64.wrap (d2 : Int) = (d2 : Int) := i64_s _ (by omega) (by omega)
                obtain ⟨k2, hk2⟩ : ∃ k2, k2 = 2 * k := ⟨_, rfl⟩
                have HK2 : Hid (k2 = 2 * k) := hk2
                have s1 : IntKind.i64.wrap (2 * (k : Int)) = (k2 : Int) := by rw [i64_s _ (by omega) (by have := HK8.out; omega)]; omega
                have s2 : IntKind.i64.wrap ((k2 : Int) + 1) = (k2 : Int) + 1 := i64_s _ (by omega) (by have := HK8.out; omega)
                have l1 : (k2 : Int) < 16 := by have := HK8.out; omega
                have l2 : (k2 : Int) + 1 < 16 := by have := HK8.out; omega
                have P1 := HF.out.2.2.1.put k2 (y := up1 (fil X i) k2 d1) (by have := HK8.out; omega) (fun j hj => by unfold up1; rw [if_neg hj])
                have e1 : up1 (fil X i) k2 d1 k2 = d1 := by unfold up1; rw [if_pos rfl]
                rw [e1] at P1
                have f1 := HF.out.2.2.1.fz k2
                have g1 := HF.out.2.2.1.get k2 (by have := HK8.out; omega)
                obtain ⟨w5, hw5⟩ : ∃ w5, w5 = wr.setCell ⟨D, k2, none⟩ (.int .u8 (d1 : Nat)) := ⟨_, rfl⟩
                rw [← hw5] at P1
                have HW5 : Hid (wr.setCell ⟨D, k2, none⟩ (.int .u8 (d1 : Nat)) = w5) := hw5.symm
                have H5 : Hid (SxAt w5 R s (.slice (some ⟨g, 0, none⟩) N c) X ∧ ArAt w5 B (arCells fun _ => 0) ∧ ArAt w5 D (arCells (up1 (fil X i) k2 d1)) ∧ Below w.heap.size w w5) := by
                  have hR := HRD.out
                  have hB := HOB.out
                  exact ⟨HF.out.1.ch P1.2 (by omega) (fun q hq => by omega), HF.out.2.1.ch P1.2 (by omega), P1.1, HF.out.2.2.2.trans (P1.2.below (fun x hx => by omega) HF.out.2.2.2.size)⟩
                have P2 := H5.out.2.2.1.put (k2 + 1) (y := fil X (i + 1)) (by have := HK8.out; omega) (fun j hj => by
                  show up1 (up1 (fil X i) (2 * kI X i) _) (2 * kI X i + 1) _ j = _
                  rw [HK.out, HV.out, ← HK2.out, ← HD.out.1]
                  exact up1_ne hj)
                have e2 : fil X (i + 1) (k2 + 1) = d2 := by
                  show up1 (up1 (fil X i) (2 * kI X i) _) (2 * kI X i + 1) _ (k2 + 1) = _
                  rw [HK.out, HV.out, ← HK2.out, ← HD.out.2]
                  exact if_pos rfl
                rw [e2] at P2
                have f2 := H5.out.2.2.1.fz (k2 + 1)
                have g2 := H5.out.2.2.1.get (k2 + 1) (by have := HK8.out; omega)
                have c1' := H5.out.1.c1
                have ce' := HCE.out w5 H5.out.1
                obtain ⟨w6, hw6⟩ : ∃ w6, w6 = w5.setCell ⟨D, k2 + 1, none⟩ (.int .u8 (d2 : Nat)) := ⟨_, rfl⟩
                rw [← hw6] at P2
                have HW6 : Hid (w5.setCell ⟨D, k2 + 1, none⟩ (.int .u8 (d2 : Nat)) = w6) := hw6.symm
                have H6 : Hid (SxAt w6 R s (.slice (some ⟨g, 0, none⟩) N c) X ∧ ArAt w6 B (arCells fun _ => 0) ∧ ArAt w6 D (arCells (fil X (i + 1))) ∧ Below w.heap.size w w6) := by
                  have hR := HRD.out
                  have hB := HOB.out
                  exact ⟨H5.out.1.ch P2.2 (by omega) (fun q hq => by omega), H5.out.2.1.ch P2.2 (by omega), P2.1, H5.out.2.2.2.trans (P2.2.below (fun x hx => by omega) H5.out.2.2.2.size)⟩
                clear P1 P2 hw5 hw6 hv hk hk2 hd1 hd2 hil hgR e1 e2
                by_cases hgap : 0 ≤ G ∧ G ≤ (i : Int)
                · have q1 : decide (0 ≤ G) = true := decide_eq_true hgap.1
                  have q2 : decide (G ≤ (i : Int)) = true := decide_eq_true hgap.2
                  have s3 : IntKind.i64.wrap (8 - (N : Int)) = 8 - (N : Int) := i64_s _ (by have := HN8.out; omega) (by omega)
                  have s4 : IntKind.i64.wrap (8 - (N : Int) + (i : Int)) = (k : Int) := by
                    have h1 := HK.out
                    have h2 := HN8.out
                    have h3 := HIL.out
                    unfold kI at h1
                    rw [HG.out, q1, q2, ← HN.out] at h1
                    simp at h1
                    rw [i64_s _ (by omega) (by omega)]
                    omega
                  clear hgap
                  go_upto_region 24 with fail
                  rw [HW5.out]
                  go_upto_region 19 with fail
                  rw [HW6.out]
                  clear f1 f2 g1 g2 c1 c2 ce c1' ce'
                  go_wp2_with fail
                  go_roundw
                  case rel => exact ⟨i + 1, HIL.out, by simp, H6.out⟩
                  case measure => have := HIL.out; simp [intOf]; omega
                · have s4 : (i : Int) = (k : Int) := by
                    have h1 := HK.out
                    unfold kI at h1
                    rw [HG.out, if_neg (by simp; omega)] at h1
                    omega
                  by_cases hg0 : 0 ≤ G
                  · have q1 : decide (0 ≤ G) = true := decide_eq_true hg0
                    have q2 : decide (G ≤ (i : Int)) = false := decide_eq_false (by omega)
                    obtain rfl : i = k := by omega
                    clear hgap hg0 s4
                    go_upto_region 24 with fail
                    rw [HW5.out]
                    go_upto_region 19 with fail
                    rw [HW6.out]
                    clear f1 f2 g1 g2 c1 c2 ce c1' ce'
                    go_wp2_with fail
                    go_roundw
                    case rel => exact ⟨i + 1, HIL.out, by simp, H6.out⟩
                    case measure => have := HIL.out; simp [intOf]; omega
                  · have q1 : decide (0 ≤ G) = false := decide_eq_false hg0
                    obtain rfl : i = k := by omega
                    clear hgap hg0 s4
                    go_upto_region 24 with fail
                    rw [HW5.out]
                    go_upto_region 19 with fail
                    rw [HW6.out]
                    clear f1 f2 g1 g2 c1 c2 ce c1' ce'
                    go_wp2_with fail
                    go_roundw
                    case rel => exact ⟨i + 1, HIL.out, by simp, H6.out⟩
                    case measure => have := HIL.out; simp [intOf]; omega
              · have p1 : decide ((i : Int) < (N : Int)) = false := decide_eq_false (by omega)
                have p2 : decide (i < N) = false := decide_eq_false hil
                have c1 := HF.out.1.c1
                have HIN : Hid (i = X.g.length) := by show _ = _; rw [← HN.out]; omega
                clear hil hi
                go_wp2_with (first | (refine wpList_load_ar (.tmp 5) rfl D 0 (fil X i) rfl HF.out.2.2.1.range rfl ?_) | (refine wpList_store_ar (.tmp 2) (.tmp 142) rfl rfl B (fun _ => 0) (fil X i) rfl rfl HF.out.2.1 rfl ?_))
                intro w7 h7 k7
                have H7 : Hid (ArAt w7 B (arCells (fil X i)) ∧ Below w.heap.size w w7) := ⟨h7, HF.out.2.2.2.trans (k7.below (fun x hx => by have := HOB.out; omega) HF.out.2.2.2.size)⟩
                clear h7 k7
                go_wp2_with fail
                refine bodyPost_ret (results_ar3 rfl _ _ B _ rfl H7.out.1) rfl ?_
                exact ⟨by rw [HRES.out, ← HIN.out]; rfl, H7.out.2⟩
        · have HRES : Hid (sixO s = .tuple #[.agg (arCells fun _ => 0), .int .i64 (X.er : Nat), .int .i64 (X.pl : Nat)]) := six_er HXE.out he
          obtain ⟨en, hen⟩ : ∃ e, X.er = e := ⟨_, rfl⟩
          obtain ⟨pn, hpn⟩ : ∃ e, X.pl = e := ⟨_, rfl⟩
          have HE4 : Hid (some (Value.int .i64 ((X.er : Nat) : Int)) = some (Value.int .i64 ((en : Nat) : Int))) := by show _ = _; rw [hen]
          have HE5 : Hid (some (Value.int .i64 ((X.pl : Nat) : Int)) = some (Value.int .i64 ((pn : Nat) : Int))) := by show _ = _; rw [hpn]
          have HEP : Hid (X.er = en ∧ X.pl = pn) := ⟨hen, hpn⟩
          rw [hen] at he
          have e1 : ((en : Int) == 0) = false := by simp; omega
          have e2 : ((en : Int) != 0) = true := by simp; omega
          have e3 : ¬ (en : Int) = 0 := by omega
          have c4 : wr.cell? ⟨R, 4, none⟩ = some (.int .i64 (en : Nat)) := HA.out.1.c4.trans HE4.out
          clear he hen hpn
          go_upto_region 16 with fail
          refine MixH.start (fun A => SxAt A R s lv X ∧ ArAt A B (arCells fun _ => 0) ∧ ArAt A D (arCells fun _ => 0) ∧ Below w.heap.size w A) (by kernel_rfl) ?_
          obtain ⟨wE, hwA⟩ : ∃ W_, W_ = wr.drew := ⟨_, rfl⟩
          have bdr : Below wr.heap.size wr wE := by rw [hwA]; exact (Below.refl _ _).drew
          have hS : SxAt wE R s lv X ∧ ArAt wE B (arCells fun _ => 0) ∧ ArAt wE D (arCells fun _ => 0) ∧ Below w.heap.size w wE := ⟨HA.out.1.below bdr, HA.out.2.1.below bdr, HA.out.2.2.1.below bdr, HA.out.2.2.2.trans (bdr.mono HA.out.2.2.2.size)⟩
          rw [← hwA]
          clear hwA bdr
          refine MixH.takes [false, true, true, true, false, true, true, true] 6 (by kernel_rfl) (by kernel_rfl) (by decide) (by kernel_rfl) hS (fun K hK => ?_)
          simp only [Mix.pick]
          repeat (go_big_quiet_step (fail))
          refine wpQuiet_nil (hK _ ?_)
          clear hK K
          refine MixH.take 5 0 _ (.agg (arCells fun _ => 0)) rfl (by kernel_rfl) (by kernel_rfl) (by kernel_rfl) (by kernel_rfl) (yields_ar (.tmp 5) rfl D 0 (fun _ => 0) rfl rfl (fun A hA => hA.2.2.1.range)) hS (fun a' ha => ?_)
          simp only [Act.put, List.setIfInBounds_toArray, List.set_cons_succ, List.set_cons_zero] at ha
          subst ha
          refine MixH.take 4 4 _ (.int .i64 (en : Nat)) rfl (by kernel_rfl) (by kernel_rfl) (by kernel_rfl) (by kernel_rfl) (yields_int (.tmp 80) rfl ⟨R, 4, none⟩ (.int .i64 (en : Nat)) rfl rfl (fun A hA => hA.1.c4.trans HE4.out)) hS (fun a' ha => ?_)
          simp only [Act.put, List.setIfInBounds_toArray, List.set_cons_succ, List.set_cons_zero] at ha
          subst ha
          refine MixH.take 3 8 _ (.int .i64 (pn : Nat)) rfl (by kernel_rfl) (by kernel_rfl) (by kernel_rfl) (by kernel_rfl) (yields_int (.tmp 84) rfl ⟨R, 5, none⟩ (.int .i64 (pn : Nat)) rfl rfl (fun A hA => hA.1.c5.trans HE5.out)) hS (fun a' ha => ?_)
          simp only [Act.put, List.setIfInBounds_toArray, List.set_cons_succ, List.set_cons_zero] at ha
          subst ha
          refine MixH.one [false, false, false, false, false, false, false, false, false, true] 2 9 _ rfl rfl (by kernel_rfl) (by kernel_rfl) (fun K hK => ?_)
          simp only [Mix.pick]
          go_wp2_with (refine wpList_store_ar (.tmp 2) (.tmp 77) rfl rfl B (fun _ => 0) (fun _ => 0) rfl rfl hS.2.1 rfl ?_)
          intro w7 h7 k7
          have hS : SxAt w7 R s lv X ∧ ArAt w7 B (arCells fun _ => 0) ∧ ArAt w7 D (arCells fun _ => 0) ∧ Below w.heap.size w w7 := by
            have hR := HRD.out
            have hB := HOB.out
            exact ⟨hS.1.ch k7 (by omega) (fun q hq => by omega), h7, hS.2.2.1.ch k7 (by omega), hS.2.2.2.trans (k7.below (fun x hx => by omega) hS.2.2.2.size)⟩
          clear h7 k7
          go_wp2_with fail
          refine ⟨rfl, hK _ _ hS ?_⟩
          clear hK K
          refine MixH.takes [false, false, false, false, false, false, false, false, false, false, true, true] 0 (by kernel_rfl) (by kernel_rfl) (by decide) (by kernel_rfl) hS (fun K hK => ?_)
          simp only [Mix.pick]
          repeat (go_big_quiet_step (fail))
          refine wpQuiet_nil (hK _ ?_)
          clear hK K
          refine MixH.done (by kernel_rfl) ?_
          have H7 : Hid (SxAt w7 R s lv X ∧ ArAt w7 B (arCells fun _ => 0) ∧ ArAt w7 D (arCells fun _ => 0) ∧ Below w.heap.size w w7) := hS
          clear hS c4
          go_wp2_with fail
          refine bodyPost_ret (results_ar3 rfl _ _ B _ rfl H7.out.2.1) rfl ?_
          exact ⟨by rw [HRES.out, HEP.out.1, HEP.out.2]; rfl, H7.out.2.2.2⟩
      | false =>
        by_cases he : X.er = 0
        rotate_left
        · have HXE : Hid (sxL s = X) := by show _ = _; rw [← HI.out.2.1]; exact slp_end (by simp [he]) f
          have HRES : Hid (sixO s = .tuple #[.agg (arCells fun _ => 0), .int .i64 (X.er : Nat), .int .i64 (X.pl : Nat)]) := six_er HXE.out he
          obtain ⟨en, hen⟩ : ∃ e, X.er = e := ⟨_, rfl⟩
          obtain ⟨pn, hpn⟩ : ∃ e, X.pl = e := ⟨_, rfl⟩
          have HE4 : Hid (some (Value.int .i64 ((X.er : Nat) : Int)) = some (Value.int .i64 ((en : Nat) : Int))) := by show _ = _; rw [hen]
          have HE5 : Hid (some (Value.int .i64 ((X.pl : Nat) : Int)) = some (Value.int .i64 ((pn : Nat) : Int))) := by show _ = _; rw [hpn]
          have HEP : Hid (X.er = en ∧ X.pl = pn) := ⟨hen, hpn⟩
          rw [hen] at he
          have e1 : ((en : Int) == 0) = false := by simp; omega
          have e2 : ((en : Int) != 0) = true := by simp; omega
          have e3 : ¬ (en : Int) = 0 := by omega
          have c4 : wr.cell? ⟨R, 4, none⟩ = some (.int .i64 (en : Nat)) := HA.out.1.c4.trans HE4.out
          clear he hen hpn
          go_upto_region 16 with fail
          refine MixH.start (fun A => SxAt A R s lv X ∧ ArAt A B (arCells fun _ => 0) ∧ ArAt A D (arCells fun _ => 0) ∧ Below w.heap.size w A) (by kernel_rfl) ?_
          obtain ⟨wE, hwA⟩ : ∃ W_, W_ = wr.drew := ⟨_, rfl⟩
          have bdr : Below wr.heap.size wr wE := by rw [hwA]; exact (Below.refl _ _).drew
          have hS : SxAt wE R s lv X ∧ ArAt wE B (arCells fun _ => 0) ∧ ArAt wE D (arCells fun _ => 0) ∧ Below w.heap.size w wE := ⟨HA.out.1.below bdr, HA.out.2.1.below bdr, HA.out.2.2.1.below bdr, HA.out.2.2.2.trans (bdr.mono HA.out.2.2.2.size)⟩
          rw [← hwA]
          clear hwA bdr
          refine MixH.takes [false, true, true, true, false, true, true, true] 6 (by kernel_rfl) (by kernel_rfl) (by decide) (by kernel_rfl) hS (fun K hK => ?_)
          simp only [Mix.pick]
          repeat (go_big_quiet_step (fail))
          refine wpQuiet_nil (hK _ ?_)
          clear hK K
          refine MixH.take 5 0 _ (.agg (arCells fun _ => 0)) rfl (by kernel_rfl) (by kernel_rfl) (by kernel_rfl) (by kernel_rfl) (yields_ar (.tmp 5) rfl D 0 (fun _ => 0) rfl rfl (fun A hA => hA.2.2.1.range)) hS (fun a' ha => ?_)
          simp only [Act.put, List.setIfInBounds_toArray, List.set_cons_succ, List.set_cons_zero] at ha
          subst ha
          refine MixH.take 4 4 _ (.int .i64 (en : Nat)) rfl (by kernel_rfl) (by kernel_rfl) (by kernel_rfl) (by kernel_rfl) (yields_int (.tmp 80) rfl ⟨R, 4, none⟩ (.int .i64 (en : Nat)) rfl rfl (fun A hA => hA.1.c4.trans HE4.out)) hS (fun a' ha => ?_)
          simp only [Act.put, List.setIfInBounds_toArray, List.set_cons_succ, List.set_cons_zero] at ha
          subst ha
          refine MixH.take 3 8 _ (.int .i64 (pn : Nat)) rfl (by kernel_rfl) (by kernel_rfl) (by kernel_rfl) (by kernel_rfl) (yields_int (.tmp 84) rfl ⟨R, 5, none⟩ (.int .i64 (pn : Nat)) rfl rfl (fun A hA => hA.1.c5.trans HE5.out)) hS (fun a' ha => ?_)
          simp only [Act.put, List.setIfInBounds_toArray, List.set_cons_succ, List.set_cons_zero] at ha
          subst ha
          refine MixH.one [false, false, false, false, false, false, false, false, false, true] 2 9 _ rfl rfl (by kernel_rfl) (by kernel_rfl) (fun K hK => ?_)
          simp only [Mix.pick]
          go_wp2_with (refine wpList_store_ar (.tmp 2) (.tmp 77) rfl rfl B (fun _ => 0) (fun _ => 0) rfl rfl hS.2.1 rfl ?_)
          intro w7 h7 k7
          have hS : SxAt w7 R s lv X ∧ ArAt w7 B (arCells fun _ => 0) ∧ ArAt w7 D (arCells fun _ => 0) ∧ Below w.heap.size w w7 := by
            have hR := HRD.out
            have hB := HOB.out
            exact ⟨hS.1.ch k7 (by omega) (fun q hq => by omega), h7, hS.2.2.1.ch k7 (by omega), hS.2.2.2.trans (k7.below (fun x hx => by omega) hS.2.2.2.size)⟩
          clear h7 k7
          go_wp2_with fail
          refine ⟨rfl, hK _ _ hS ?_⟩
          clear hK K
          refine MixH.takes [false, false, false, false, false, false, false, false, false, false, true, true] 0 (by kernel_rfl) (by kernel_rfl) (by decide) (by kernel_rfl) hS (fun K hK => ?_)
          simp only [Mix.pick]
          repeat (go_big_quiet_step (fail))
          refine wpQuiet_nil (hK _ ?_)
          clear hK K
          refine MixH.done (by kernel_rfl) ?_
          have H7 : Hid (SxAt w7 R s lv X ∧ ArAt w7 B (arCells fun _ => 0) ∧ ArAt w7 D (arCells fun _ => 0) ∧ Below w.heap.size w w7) := hS
          clear hS c4
          go_wp2_with fail
          refine bodyPost_ret (results_ar3 rfl _ _ B _ rfl H7.out.2.1) rfl ?_
          exact ⟨by rw [HRES.out, HEP.out.1, HEP.out.2]; rfl, H7.out.2.2.2⟩
        have HER : Hid (X.er = 0) := he
        clear he
        have HM0 : Hid (mZ s (X, false) = s.size + 1 - X.p) := by show _ = _; unfold mZ; rw [HER.out]; rfl
        obtain ⟨f', hf'⟩ : ∃ f', f = f' + 1 := ⟨f - 1, by have h1 := HI.out.2.2; have h2 := HM0.out; have h3 := HOK.out.p; omega⟩
        subst hf'
        have HSL : Hid (slp s f' (rnd s X) = sxL s) := by
          have h1 := HI.out.2.1
          unfold slp at h1
          rw [HER.out] at h1
          exact h1
        have HLE : Hid (mZ s (rnd s X) < s.size + 1 - X.p) := rnd_less' HOK.out
        have HLF : Hid (mZ s (rnd s X) ≤ f') := by have h1 := HLE.out; have h2 := HI.out.2.2; have h3 := HM0.out; show _ ≤ _; omega
        have HME : Hid (sxM s R (.bool false) wr = s.size + 1 - X.p) := by show _ = _; rw [sxM_eq HA.out.1, HM0.out]
        have c4 : wr.cell? ⟨R, 4, none⟩ = some (.int .i64 0) := HA.out.1.c4.trans (by rw [HER.out]; rfl)
        go_wp2_with fail
        refine (group6_any R s lv X wr HA.out.1 HOK.out.p HS.out HOK.out.l).mono ?_
        rintro e1 w4 ⟨rfl, ⟨lv2, k1⟩, k2⟩
        obtain ⟨Y, hY⟩ : ∃ Y, grp s X = Y := ⟨_, rfl⟩
        rw [hY] at k1 ⊢
        have HY : Hid (grp s X = Y) := hY
        have HAY : Hid (SxAt w4 R s lv2 Y.1 ∧ ArAt w4 B (arCells fun _ => 0) ∧ ArAt w4 D (arCells fun _ => 0) ∧ Below w.heap.size w w4) := by
          have hR := HRD.out
          have hB := HOB.out
          exact ⟨k1, HA.out.2.1.lowb k2 (by omega), HA.out.2.2.1.lowb k2 (by omega), HA.out.2.2.2.trans (k2.mono (by omega))⟩
        obtain ⟨Y1, bd⟩ := Y
        simp only at HAY ⊢
        clear hY k1 k2 c4
        cases bd with
        | true =>
          have HRN : Hid (rnd s X = (Y1, true)) := by show _ = _; unfold rnd; rw [HY.out]; rfl
          go_wp2
          go_roundw
          case rel => exact ⟨Y1, true, lv2, f', rfl, ⟨by have := rnd_ok' HOK.out; rw [HRN.out] at this; exact this, by have := HSL.out; rw [HRN.out] at this; exact this, by have := HLF.out; rw [HRN.out] at this; exact this⟩, HAY.out⟩
          case measure => rw [HME.out, sxM_eq HAY.out.1]; have := HLE.out; rw [HRN.out] at this; exact this
        | false =>
          by_cases he : Y1.er = 0
          · have HYE : Hid (Y1.er = 0) := he
            have HRN : Hid (rnd s X = btw s Y1) := by show _ = _; unfold rnd; rw [HY.out]; simp only; rw [he]; rfl
            have HYP : Hid (Y1.p < s.size) := by have := (grp_go' HOK.out (by rw [HY.out])).2.1; rw [HY.out] at this; exact this
            have c4 : w4.cell? ⟨R, 4, none⟩ = some (.int .i64 0) := HAY.out.1.c4.trans (by rw [he]; rfl)
            clear he
            go_wp2_with fail
            refine (between_any R s lv2 Y1 w4 HAY.out.1 HYP.out HS.out).mono ?_
            rintro e1 w5 ⟨rfl, k1, k2⟩
            obtain ⟨U, hU⟩ : ∃ U, btw s Y1 = U := ⟨_, rfl⟩
            rw [hU] at k1 ⊢
            have HU : Hid (rnd s X = U) := HRN.out.trans hU
            have HAU : Hid (SxAt w5 R s lv2 U.1 ∧ ArAt w5 B (arCells fun _ => 0) ∧ ArAt w5 D (arCells fun _ => 0) ∧ Below w.heap.size w w5) := by
              have hR := HRD.out
              have hB := HOB.out
              exact ⟨k1, HAY.out.2.1.ch k2 (by omega), HAY.out.2.2.1.ch k2 (by omega), HAY.out.2.2.2.trans (k2.below (fun x hx => by omega) HAY.out.2.2.2.size)⟩
            obtain ⟨U1, ud⟩ := U
            simp only at HAU ⊢
            clear hU k1 k2 c4
            go_wp2
            go_roundw
            case rel => exact ⟨U1, ud, lv2, f', rfl, ⟨by have := rnd_ok' HOK.out; rw [HU.out] at this; exact this, by have := HSL.out; rw [HU.out] at this; exact this, by have := HLF.out; rw [HU.out] at this; exact this⟩, HAU.out⟩
            case measure => rw [HME.out, sxM_eq HAU.out.1]; have := HLE.out; rw [HU.out] at this; exact this
          · have HRN : Hid (rnd s X = (Y1, false)) := by show _ = _; unfold rnd; rw [HY.out]; simp [he]
            have c4 := HAY.out.1.c4
            have q1 : (((Y1.er : Nat) : Int) == 0) = false := by simp [he]
            clear he
            go_wp2
            go_roundw
            case rel => exact ⟨Y1, false, lv2, f', rfl, ⟨by have := rnd_ok' HOK.out; rw [HRN.out] at this; exact this, by have := HSL.out; rw [HRN.out] at this; exact this, by have := HLF.out; rw [HRN.out] at this; exact this⟩, HAY.out⟩
            case measure => rw [HME.out, sxM_eq HAY.out.1]; have := HLE.out; rw [HRN.out] at this; exact this
  | false =>
    have HX0 : Hid (sx0 s = (⟨[], -1, 0, 0, 0⟩, false)) := by show _ = _; unfold sx0; rw [HB0.out]; rfl
    go_wp2
    go_loopw [7] (fun dv wr => ∃ (X : SX) (d : Bool) (lv : Value) (f : Nat), dv = .bool d ∧ Hid (SxOk s X ∧ slp s f (X, d) = sxL s ∧ mZ s (X, d) ≤ f) ∧ Hid (SxAt wr R s lv X ∧ ArAt wr B (arCells fun _ => 0) ∧ ArAt wr D (arCells fun _ => 0) ∧ Below w.heap.size w wr)) (fun dv wr => sxM s R dv wr)
    case atStart => exact ⟨⟨[], -1, 0, 0, 0⟩, false, .slice none 0 0, s.size + 1, rfl, ⟨by have := sx0_ok s; rw [HX0.out] at this; exact this, by unfold sxL; rw [HX0.out], by have := sx0_m s; rw [HX0.out] at this; exact this⟩, H0.out⟩
    case round =>
      obtain ⟨X, d, lv, f, rfl, HI, HA⟩ := hrel
      have HOK : Hid (SxOk s X) := HI.out.1
      cases d with
      | true =>
        have HXE : Hid (sxL s = X) := by show _ = _; rw [← HI.out.2.1]; exact slp_end rfl f
        by_cases he : X.er = 0
        · have HER : Hid (X.er = 0) := he
          clear he
          obtain ⟨N, hN⟩ : ∃ N, N = X.g.length := ⟨_, rfl⟩
          obtain ⟨a, c, hlv⟩ := owns_shape HA.out.1.own
          rw [← hN] at hlv
          subst hlv
          have HN : Hid (N = X.g.length) := hN
          have HN8 : Hid (N ≤ 8) := by show N ≤ 8; rw [hN]; exact HOK.out.l
          obtain ⟨G, hG⟩ : ∃ G, X.gap = G := ⟨_, rfl⟩
          have HG : Hid (X.gap = G) := hG
          have c4 : wr.cell? ⟨R, 4, none⟩ = some (.int .i64 0) := HA.out.1.c4.trans (by rw [HER.out]; rfl)
          have c2 : wr.cell? ⟨R, 2, none⟩ = some (.int .i64 G) := HA.out.1.c2.trans (by rw [hG])
          have c1 := HA.out.1.c1
          clear hN hG
          by_cases hg : G < 0
          · have q1 : decide (G < 0) = true := decide_eq_true hg
            by_cases hn : N < 8
            · have HRES : Hid (sixO s = .tuple #[.agg (arCells fun _ => 0), .int .i64 42, .int .i64 (s.size : Nat)]) := six_cut HXE.out HER.out (by rw [HG.out]; exact hg) (by rw [← HN.out]; exact hn)
              have q2 : decide ((N : Int) < 8) = true := decide_eq_true (by omega)
              have q3 : (N : Int) < 8 := by omega
              have q4 : decide (N < 8) = true := decide_eq_true hn
              clear hg hn
              go_wp2_with fail
              refine (fail_any R s (.slice a N c) X 42 s.size wr HA.out.1).mono ?_
              rintro e3 w5 ⟨rfl, k1, k2⟩
              have HF42 : Hid ((X.fail 42 s.size).er = 42 ∧ (X.fail 42 s.size).pl = s.size) := by show (X.fail 42 s.size).er = 42 ∧ (X.fail 42 s.size).pl = s.size; unfold SX.fail; rw [HER.out]; exact ⟨rfl, rfl⟩
              obtain ⟨Y, hY⟩ : ∃ Y, X.fail 42 s.size = Y := ⟨_, rfl⟩
              rw [hY] at k1
              have HY : Hid (Y.er = 42 ∧ Y.pl = s.size) := by have := HF42.out; rw [hY] at this; exact this
              have HA5 : Hid (SxAt w5 R s (.slice a N c) Y ∧ ArAt w5 B (arCells fun _ => 0) ∧ ArAt w5 D (arCells fun _ => 0) ∧ Below w.heap.size w w5) := by
                have hR := HRD.out
                have hB := HOB.out
                exact ⟨k1, HA.out.2.1.ch k2 (by omega), HA.out.2.2.1.ch k2 (by omega), HA.out.2.2.2.trans (k2.below (fun x hx => by omega) HA.out.2.2.2.size)⟩
              clear k1 k2 c1 c2 c4 hY
              have c4 : w5.cell? ⟨R, 4, none⟩ = some (.int .i64 42) := HA5.out.1.c4.trans (by rw [HY.out.1]; rfl)
              have HE4 : Hid (some (Value.int .i64 ((Y.er : Nat) : Int)) = some (Value.int .i64 42)) := by show _ = _; rw [HY.out.1]; rfl
              have HE5 : Hid (some (Value.int .i64 ((Y.pl : Nat) : Int)) = some (Value.int .i64 ((s.size : Nat) : Int))) := by show _ = _; rw [HY.out.2]
              go_upto_region 16 with fail
              refine MixH.start (fun A => SxAt A R s (.slice a N c) Y ∧ ArAt A B (arCells fun _ => 0) ∧ ArAt A D (arCells fun _ => 0) ∧ Below w.heap.size w A) (by kernel_rfl) ?_
              obtain ⟨wE, hwA⟩ : ∃ W_, W_ = w5.drew := ⟨_, rfl⟩
              have bdr : Below w5.heap.size w5 wE := by rw [hwA]; exact (Below.refl _ _).drew
              have hS : SxAt wE R s (.slice a N c) Y ∧ ArAt wE B (arCells fun _ => 0) ∧ ArAt wE D (arCells fun _ => 0) ∧ Below w.heap.size w wE := ⟨HA5.out.1.below bdr, HA5.out.2.1.below bdr, HA5.out.2.2.1.below bdr, HA5.out.2.2.2.trans (bdr.mono HA5.out.2.2.2.size)⟩
              rw [← hwA]
              clear hwA bdr
              refine MixH.takes [false, true, true, true, false, true, true, true] 6 (by kernel_rfl) (by kernel_rfl) (by decide) (by kernel_rfl) hS (fun K hK => ?_)
              simp only [Mix.pick]
              repeat (go_big_quiet_step (fail))
              refine wpQuiet_nil (hK _ ?_)
              clear hK K
              refine MixH.take 5 0 _ (.agg (arCells fun _ => 0)) rfl (by kernel_rfl) (by kernel_rfl) (by kernel_rfl) (by kernel_rfl) (yields_ar (.tmp 5) rfl D 0 (fun _ => 0) rfl rfl (fun A hA => hA.2.2.1.range)) hS (fun a' ha => ?_)
              simp only [Act.put, List.setIfInBounds_toArray, List.set_cons_succ, List.set_cons_zero] at ha
              subst ha
              refine MixH.take 4 4 _ (.int .i64 42) rfl (by kernel_rfl) (by kernel_rfl) (by kernel_rfl) (by kernel_rfl) (yields_int (.tmp 80) rfl ⟨R, 4, none⟩ (.int .i64 42) rfl rfl (fun A hA => hA.1.c4.trans HE4.out)) hS (fun a' ha => ?_)
              simp only [Act.put, List.setIfInBounds_toArray, List.set_cons_succ, List.set_cons_zero] at ha
              subst ha
              refine MixH.take 3 8 _ (.int .i64 (s.size : Nat)) rfl (by kernel_rfl) (by kernel_rfl) (by kernel_rfl) (by kernel_rfl) (yields_int (.tmp 84) rfl ⟨R, 5, none⟩ (.int .i64 (s.size : Nat)) rfl rfl (fun A hA => hA.1.c5.trans HE5.out)) hS (fun a' ha => ?_)
              simp only [Act.put, List.setIfInBounds_toArray, List.set_cons_succ, List.set_cons_zero] at ha
              subst ha
              refine MixH.one [false, false, false, false, false, false, false, false, false, true] 2 9 _ rfl rfl (by kernel_rfl) (by kernel_rfl) (fun K hK => ?_)
              simp only [Mix.pick]
              go_wp2_with (refine wpList_store_ar (.tmp 2) (.tmp 77) rfl rfl B (fun _ => 0) (fun _ => 0) rfl rfl hS.2.1 rfl ?_)
              intro w7 h7 k7
              have hS : SxAt w7 R s (.slice a N c) Y ∧ ArAt w7 B (arCells fun _ => 0) ∧ ArAt w7 D (arCells fun _ => 0) ∧ Below w.heap.size w w7 := by
                have hR := HRD.out
                have hB := HOB.out
                exact ⟨hS.1.ch k7 (by omega) (fun q hq => by omega), h7, hS.2.2.1.ch k7 (by omega), hS.2.2.2.trans (k7.below (fun x hx => by omega) hS.2.2.2.size)⟩
              clear h7 k7
              go_wp2_with fail
              refine ⟨rfl, hK _ _ hS ?_⟩
              clear hK K
              refine MixH.takes [false, false, false, false, false, false, false, false, false, false, true, true] 0 (by kernel_rfl) (by kernel_rfl) (by decide) (by kernel_rfl) hS (fun K hK => ?_)
              simp only [Mix.pick]
              repeat (go_big_quiet_step (fail))
              refine wpQuiet_nil (hK _ ?_)
              clear hK K
              refine MixH.done (by kernel_rfl) ?_
              have H7 : Hid (SxAt w7 R s (.slice a N c) Y ∧ ArAt w7 B (arCells fun _ => 0) ∧ ArAt w7 D (arCells fun _ => 0) ∧ Below w.heap.size w w7) := hS
              clear hS c4
              go_wp2_with fail
              refine bodyPost_ret (results_ar3 rfl _ _ B _ rfl H7.out.2.1) rfl ?_
              exact ⟨by rw [HRES.out]; rfl, H7.out.2.2.2⟩
            · have HN7 : Hid (¬ N < 8) := hn
              have HRES : Hid (sixO s = .tuple #[.agg (arCells (fil X X.g.length)), .int .i64 0, .int .i64 0]) := six_ok HXE.out HER.out (by rw [← HN.out]; omega)
              have q2 : decide ((N : Int) < 8) = false := decide_eq_false (by have := HN7.out; omega)
              have q3 : ¬ (N : Int) < 8 := by have := HN7.out; omega
              clear hg hn
              go_wp2
              go_loopw [9] (fun iv wf => ∃ i : Nat, i ≤ N ∧ iv = .int .i64 (i : Nat) ∧ Hid (SxAt wf R s (.slice a N c) X ∧ ArAt wf B (arCells fun _ => 0) ∧ ArAt wf D (arCells (fil X i)) ∧ Below w.heap.size w wf)) (fun iv _ => N - (intOf iv).toNat)
              case atStart => exact ⟨0, Nat.zero_le _, rfl, ⟨HA.out.1, HA.out.2.1, HA.out.2.2.1, HA.out.2.2.2⟩⟩
              case round =>
                obtain ⟨i, hi, rfl, HF⟩ := hrel
                clear c1 c2 c4
                by_cases hil : i < N
                · have p1 : decide ((i : Int) < (N : Int)) = true := decide_eq_true (by omega)
                  have p2 : decide (i < N) = true := decide_eq_true hil
                  have HIL : Hid (i < N) := hil
                  have w1 : IntKind.i64.wrap ((i : Int) + 1) = (i : Int) + 1 := i64_s _ (by omega) (by have := HN8.out; omega)
                  obtain ⟨k, hk⟩ : ∃ k, kI X i = k := ⟨_, rfl⟩
                  have HK : Hid (kI X i = k) := hk
                  have HK8 : Hid (k < 8) := by
                    show k < 8
                    rw [← hk]
                    unfold kI
                    have h1 := HN8.out
                    rw [← HN.out]
                    split <;> omega
                  have HSH : Hid (∃ g, a = some ⟨g, 0, none⟩ ∧ R + 1 ≤ g) := by
                    rcases HF.out.1.own.2 with ⟨h1, h2⟩ | ⟨g, cap, cur, hv, hg, r⟩
                    · simp at h1
                      have := h1.2.1
                      omega
                    · simp at hv
                      exact ⟨g, hv.1, hg⟩
                  obtain ⟨g, hga, hgR⟩ := HSH.out
                  subst hga
                  have HGR : Hid (R + 1 ≤ g) := hgR
                  obtain ⟨v, hv⟩ : ∃ v, X.g.getD i 0 = v := ⟨_, rfl⟩
                  have HV : Hid (X.g.getD i 0 = v) := hv
                  have HV6 : Hid (v < 65536) := by
                    show v < 65536
                    have hl : i < X.g.length := by rw [← HN.out]; exact hil
                    rw [← hv, List.getD_eq_getElem?_getD, List.getElem?_eq_getElem hl]
                    exact HOK.out.b _ (List.getElem_mem hl)
                  have HCE : Hid (∀ ww, SxAt ww R s (.slice (some ⟨g, 0, none⟩) N c) X → ww.cell? ⟨g, i, none⟩ = some (.int .i64 (v : Nat))) := fun ww hww => by
                    have hl : i < X.g.length := by rw [← HN.out]; exact HIL.out
                    have ho := hww.own
                    rw [← HN.out] at ho
                    have h1 := ho.cellAt i (by simpa using HIL.out)
                    rw [h1, List.getElem?_map, List.getElem?_eq_getElem hl, ← HV.out, List.getD_eq_getElem?_getD, List.getElem?_eq_getElem hl]
                    rfl
                  have c1 := HF.out.1.c1
                  have c2 : wr.cell? ⟨R, 2, none⟩ = some (.int .i64 G) := HF.out.1.c2.trans (by rw [HG.out])
                  have ce := HCE.out wr HF.out.1
                  obtain ⟨d1, hd1⟩ : ∃ d : Nat, d = v / 256 := ⟨_, rfl⟩
                  obtain ⟨d2, hd2⟩ : ∃ d : Nat, d = v % 256 := ⟨_, rfl⟩
                  have HD : Hid (d1 = v / 256 ∧ d2 = v % 256) := ⟨hd1, hd2⟩
                  have t1 : Int.tdiv (v : Int) 256 = (d1 : Int) := by rw [Int.tdiv_eq_ediv_of_nonneg (by omega)]; omega
                  have t2 : Int.tmod (v : Int) 256 = (d2 : Int) := by rw [Int.tmod_eq_emod_of_nonneg (by omega)]; omega
                  have t3 : IntKind.u8.wrap (d1 : Int) = (d1 : Int) := u8_s _ (by omega) (by have := HV6.out; omega)
                  have t4 : IntKind.u8.wrap (d2 : Int) = (d2 : Int) := u8_s _ (by omega) (by omega)
                  have t5 : IntKind.i64.wrap (d1 : Int) = (d1 : Int) := i64_s _ (by omega) (by have := HV6.out; omega)
                  have t6 : IntKind.i64.wrap (d2 : Int) = (d2 : Int) := i64_s _ (by omega) (by omega)
                  obtain ⟨k2, hk2⟩ : ∃ k2, k2 = 2 * k := ⟨_, rfl⟩
                  have HK2 : Hid (k2 = 2 * k) := hk2
                  have s1 : IntKind.i64.wrap (2 * (k : Int)) = (k2 : Int) := by rw [i64_s _ (by omega) (by have := HK8.out; omega)]; omega
                  have s2 : IntKind.i64.wrap ((k2 : Int) + 1) = (k2 : Int) + 1 := i64_s _ (by omega) (by have := HK8.out; omega)
                  have l1 : (k2 : Int) < 16 := by have := HK8.out; omega
                  have l2 : (k2 : Int) + 1 < 16 := by have := HK8.out; omega
                  have P1 := HF.out.2.2.1.put k2 (y := up1 (fil X i) k2 d1) (by have := HK8.out; omega) (fun j hj => by unfold up1; rw [if_neg hj])
                  have e1 : up1 (fil X i) k2 d1 k2 = d1 := by unfold up1; rw [if_pos rfl]
                  rw [e1] at P1
                  have f1 := HF.out.2.2.1.fz k2
                  have g1 := HF.out.2.2.1.get k2 (by have := HK8.out; omega)
                  obtain ⟨w5, hw5⟩ : ∃ w5, w5 = wr.setCell ⟨D, k2, none⟩ (.int .u8 (d1 : Nat)) := ⟨_, rfl⟩
                  rw [← hw5] at P1
                  have HW5 : Hid (wr.setCell ⟨D, k2, none⟩ (.int .u8 (d1 : Nat)) = w5) := hw5.symm
                  have H5 : Hid (SxAt w5 R s (.slice (some ⟨g, 0, none⟩) N c) X ∧ ArAt w5 B (arCells fun _ => 0) ∧ ArAt w5 D (arCells (up1 (fil X i) k2 d1)) ∧ Below w.heap.size w w5) := by
                    have hR := HRD.out
                    have hB := HOB.out
                    exact ⟨HF.out.1.ch P1.2 (by omega) (fun q hq => by omega), HF.out.2.1.ch P1.2 (by omega), P1.1, HF.out.2.2.2.trans (P1.2.below (fun x hx => by omega) HF.out.2.2.2.size)⟩
                  have P2 := H5.out.2.2.1.put (k2 + 1) (y := fil X (i + 1)) (by have := HK8.out; omega) (fun j hj => by
                    show up1 (up1 (fil X i) (2 * kI X i) _) (2 * kI X i + 1) _ j = _
                    rw [HK.out, HV.out, ← HK2.out, ← HD.out.1]
                    exact up1_ne hj)
                  have e2 : fil X (i + 1) (k2 + 1) = d2 := by
                    show up1 (up1 (fil X i) (2 * kI X i) _) (2 * kI X i + 1) _ (k2 + 1) = _
                    rw [HK.out, HV.out, ← HK2.out, ← HD.out.2]
                    exact if_pos rfl
                  rw [e2] at P2
                  have f2 := H5.out.2.2.1.fz (k2 + 1)
                  have g2 := H5.out.2.2.1.get (k2 + 1) (by have := HK8.out; omega)
                  have c1' := H5.out.1.c1
                  have ce' := HCE.out w5 H5.out.1
                  obtain ⟨w6, hw6⟩ : ∃ w6, w6 = w5.setCell ⟨D, k2 + 1, none⟩ (.int .u8 (d2 : Nat)) := ⟨_, rfl⟩
                  rw [← hw6] at P2
                  have HW6 : Hid (w5.setCell ⟨D, k2 + 1, none⟩ (.int .u8 (d2 : Nat)) = w6) := hw6.symm
                  have H6 : Hid (SxAt w6 R s (.slice (some ⟨g, 0, none⟩) N c) X ∧ ArAt w6 B (arCells fun _ => 0) ∧ ArAt w6 D (arCells (fil X (i + 1))) ∧ Below w.heap.size w w6) := by
                    have hR := HRD.out
                    have hB := HOB.out
                    exact ⟨H5.out.1.ch P2.2 (by omega) (fun q hq => by omega), H5.out.2.1.ch P2.2 (by omega), P2.1, H5.out.2.2.2.trans (P2.2.below (fun x hx => by omega) H5.out.2.2.2.size)⟩
                  clear P1 P2 hw5 hw6 hv hk hk2 hd1 hd2 hil hgR e1 e2
                  by_cases hgap : 0 ≤ G ∧ G ≤ (i : Int)
                  · have q1 : decide (0 ≤ G) = true := decide_eq_true hgap.1
                    have q2 : decide (G ≤ (i : Int)) = true := decide_eq_true hgap.2
                    have s3 : IntKind.i64.wrap (8 - (N : Int)) = 8 - (N : Int) := i64_s _ (by have := HN8.out; omega) (by omega)
                    have s4 : IntKind.i64.wrap (8 - (N : Int) + (i : Int)) = (k : Int) := by
                      have h1 := HK.out
                      have h2 := HN8.out
                      have h3 := HIL.out
                      unfold kI at h1
                      rw [HG.out, q1, q2, ← HN.out] at h1
                      simp at h1
                      rw [i64_s _ (by omega) (by omega)]
                      omega
                    clear hgap
                    go_upto_region 24 with fail
                    rw [HW5.out]
                    go_upto_region 19 with fail
                    rw [HW6.out]
                    clear f1 f2 g1 g2 c1 c2 ce c1' ce'
                    go_wp2_with fail
                    go_roundw
                    case rel => exact ⟨i + 1, HIL.out, by simp, H6.out⟩
                    case measure => have := HIL.out; simp [intOf]; omega
                  · have s4 : (i : Int) = (k : Int) := by
                      have h1 := HK.out
                      unfold kI at h1
                      rw [HG.out, if_neg (by simp; omega)] at h1
                      omega
                    by_cases hg0 : 0 ≤ G
                    · have q1 : decide (0 ≤ G) = true := decide_eq_true hg0
                      have q2 : decide (G ≤ (i : Int)) = false := decide_eq_false (by omega)
                      obtain rfl : i = k := by omega
                      clear hgap hg0 s4
                      go_upto_region 24 with fail
                      rw [HW5.out]
                      go_upto_region 19 with fail
                      rw [HW6.out]
                      clear f1 f2 g1 g2 c1 c2 ce c1' ce'
                      go_wp2_with fail
                      go_roundw
                      case rel => exact ⟨i + 1, HIL.out, by simp, H6.out⟩
                      case measure => have := HIL.out; simp [intOf]; omega
                    · have q1 : decide (0 ≤ G) = false := decide_eq_false hg0
                      obtain rfl : i = k := by omega
                      clear hgap hg0 s4
                      go_upto_region 24 with fail
                      rw [HW5.out]
                      go_upto_region 19 with fail
                      rw [HW6.out]
                      clear f1 f2 g1 g2 c1 c2 ce c1' ce'
                      go_wp2_with fail
                      go_roundw
                      case rel => exact ⟨i + 1, HIL.out, by simp, H6.out⟩
                      case measure => have := HIL.out; simp [intOf]; omega
                · have p1 : decide ((i : Int) < (N : Int)) = false := decide_eq_false (by omega)
                  have p2 : decide (i < N) = false := decide_eq_false hil
                  have c1 := HF.out.1.c1
                  have HIN : Hid (i = X.g.length) := by show _ = _; rw [← HN.out]; omega
                  clear hil hi
                  go_wp2_with (first | (refine wpList_load_ar (.tmp 5) rfl D 0 (fil X i) rfl HF.out.2.2.1.range rfl ?_) | (refine wpList_store_ar (.tmp 2) (.tmp 142) rfl rfl B (fun _ => 0) (fil X i) rfl rfl HF.out.2.1 rfl ?_))
                  intro w7 h7 k7
                  have H7 : Hid (ArAt w7 B (arCells (fil X i)) ∧ Below w.heap.size w w7) := ⟨h7, HF.out.2.2.2.trans (k7.below (fun x hx => by have := HOB.out; omega) HF.out.2.2.2.size)⟩
                  clear h7 k7
                  go_wp2_with fail
                  refine bodyPost_ret (results_ar3 rfl _ _ B _ rfl H7.out.1) rfl ?_
                  exact ⟨by rw [HRES.out, ← HIN.out]; rfl, H7.out.2⟩
          · have q1 : decide (G < 0) = false := decide_eq_false hg
            have HRES : Hid (sixO s = .tuple #[.agg (arCells (fil X X.g.length)), .int .i64 0, .int .i64 0]) := six_ok HXE.out HER.out (by rw [HG.out]; exact fun h => hg h.1)
            clear hg
            go_wp2
            go_loopw [9] (fun iv wf => ∃ i : Nat, i ≤ N ∧ iv = .int .i64 (i : Nat) ∧ Hid (SxAt wf R s (.slice a N c) X ∧ ArAt wf B (arCells fun _ => 0) ∧ ArAt wf D (arCells (fil X i)) ∧ Below w.heap.size w wf)) (fun iv _ => N - (intOf iv).toNat)
            case atStart => exact ⟨0, Nat.zero_le _, rfl, ⟨HA.out.1, HA.out.2.1, HA.out.2.2.1, HA.out.2.2.2⟩⟩
            case round =>
              obtain ⟨i, hi, rfl, HF⟩ := hrel
              clear c1 c2 c4
              by_cases hil : i < N
              · have p1 : decide ((i : Int) < (N : Int)) = true := decide_eq_true (by omega)
                have p2 : decide (i < N) = true := decide_eq_true hil
                have HIL : Hid (i < N) := hil
                have w1 : IntKind.i64.wrap ((i : Int) + 1) = (i : Int) + 1 := i64_s _ (by omega) (by have := HN8.out; omega)
                obtain ⟨k, hk⟩ : ∃ k, kI X i = k := ⟨_, rfl⟩
                have HK : Hid (kI X i = k) := hk
                have HK8 : Hid (k < 8) := by
                  show k < 8
                  rw [← hk]
                  unfold kI
                  have h1 := HN8.out
                  rw [← HN.out]
                  split <;> omega
                have HSH : Hid (∃ g, a = some ⟨g, 0, none⟩ ∧ R + 1 ≤ g) := by
                  rcases HF.out.1.own.2 with ⟨h1, h2⟩ | ⟨g, cap, cur, hv, hg, r⟩
                  · simp at h1
                    have := h1.2.1
                    omega
                  · simp at hv
                    exact ⟨g, hv.1, hg⟩
                obtain ⟨g, hga, hgR⟩ := HSH.out
                subst hga
                have HGR : Hid (R + 1 ≤ g) := hgR
                obtain ⟨v, hv⟩ : ∃ v, X.g.getD i 0 = v := ⟨_, rfl⟩
                have HV : Hid (X.g.getD i 0 = v) := hv
                have HV6 : Hid (v < 65536) := by
                  show v < 65536
                  have hl : i < X.g.length := by rw [← HN.out]; exact hil
                  rw [← hv, List.getD_eq_getElem?_getD, List.getElem?_eq_getElem hl]
                  exact HOK.out.b _ (List.getElem_mem hl)
                have HCE : Hid (∀ ww, SxAt ww R s (.slice (some ⟨g, 0, none⟩) N c) X → ww.cell? ⟨g, i, none⟩ = some (.int .i64 (v : Nat))) := fun ww hww => by
                  have hl : i < X.g.length := by rw [← HN.out]; exact HIL.out
                  have ho := hww.own
                  rw [← HN.out] at ho
                  have h1 := ho.cellAt i (by simpa using HIL.out)
                  rw [h1, List.getElem?_map, List.getElem?_eq_getElem hl, ← HV.out, List.getD_eq_getElem?_getD, List.getElem?_eq_getElem hl]
                  rfl
                have c1 := HF.out.1.c1
                have c2 : wr.cell? ⟨R, 2, none⟩ = some (.int .i64 G) := HF.out.1.c2.trans (by rw [HG.out])
                have ce := HCE.out wr HF.out.1
                obtain ⟨d1, hd1⟩ : ∃ d : Nat, d = v / 256 := ⟨_, rfl⟩
                obtain ⟨d2, hd2⟩ : ∃ d : Nat, d = v % 256 := ⟨_, rfl⟩
                have HD : Hid (d1 = v / 256 ∧ d2 = v % 256) := ⟨hd1, hd2⟩
                have t1 : Int.tdiv (v : Int) 256 = (d1 : Int) := by rw [Int.tdiv_eq_ediv_of_nonneg (by omega)]; omega
                have t2 : Int.tmod (v : Int) 256 = (d2 : Int) := by rw [Int.tmod_eq_emod_of_nonneg (by omega)]; omega
                have t3 : IntKind.u8.wrap (d1 : Int) = (d1 : Int) := u8_s _ (by omega) (by have := HV6.out; omega)
                have t4 : IntKind.u8.wrap (d2 : Int) = (d2 : Int) := u8_s _ (by omega) (by omega)
                have t5 : IntKind.i64.wrap (d1 : Int) = (d1 : Int) := i64_s _ (by omega) (by have := HV6.out; omega)
                have t6 : IntKind.i64.wrap (d2 : Int) = (d2 : Int) := i64_s _ (by omega) (by omega)
                obtain ⟨k2, hk2⟩ : ∃ k2, k2 = 2 * k := ⟨_, rfl⟩
                have HK2 : Hid (k2 = 2 * k) := hk2
                have s1 : IntKind.i64.wrap (2 * (k : Int)) = (k2 : Int) := by rw [i64_s _ (by omega) (by have := HK8.out; omega)]; omega
                have s2 : IntKind.i64.wrap ((k2 : Int) + 1) = (k2 : Int) + 1 := i64_s _ (by omega) (by have := HK8.out; omega)
                have l1 : (k2 : Int) < 16 := by have := HK8.out; omega
                have l2 : (k2 : Int) + 1 < 16 := by have := HK8.out; omega
                have P1 := HF.out.2.2.1.put k2 (y := up1 (fil X i) k2 d1) (by have := HK8.out; omega) (fun j hj => by unfold up1; rw [if_neg hj])
                have e1 : up1 (fil X i) k2 d1 k2 = d1 := by unfold up1; rw [if_pos rfl]
                rw [e1] at P1
                have f1 := HF.out.2.2.1.fz k2
                have g1 := HF.out.2.2.1.get k2 (by have := HK8.out; omega)
                obtain ⟨w5, hw5⟩ : ∃ w5, w5 = wr.setCell ⟨D, k2, none⟩ (.int .u8 (d1 : Nat)) := ⟨_, rfl⟩
                rw [← hw5] at P1
                have HW5 : Hid (wr.setCell ⟨D, k2, none⟩ (.int .u8 (d1 : Nat)) = w5) := hw5.symm
                have H5 : Hid (SxAt w5 R s (.slice (some ⟨g, 0, none⟩) N c) X ∧ ArAt w5 B (arCells fun _ => 0) ∧ ArAt w5 D (arCells (up1 (fil X i) k2 d1)) ∧ Below w.heap.size w w5) := by
                  have hR := HRD.out
                  have hB := HOB.out
                  exact ⟨HF.out.1.ch P1.2 (by omega) (fun q hq => by omega), HF.out.2.1.ch P1.2 (by omega), P1.1, HF.out.2.2.2.trans (P1.2.below (fun x hx => by omega) HF.out.2.2.2.size)⟩
                have P2 := H5.out.2.2.1.put (k2 + 1) (y := fil X (i + 1)) (by have := HK8.out; omega) (fun j hj => by
                  show up1 (up1 (fil X i) (2 * kI X i) _) (2 * kI X i + 1) _ j = _
                  rw [HK.out, HV.out, ← HK2.out, ← HD.out.1]
                  exact up1_ne hj)
                have e2 : fil X (i + 1) (k2 + 1) = d2 := by
                  show up1 (up1 (fil X i) (2 * kI X i) _) (2 * kI X i + 1) _ (k2 + 1) = _
                  rw [HK.out, HV.out, ← HK2.out, ← HD.out.2]
                  exact if_pos rfl
                rw [e2] at P2
                have f2 := H5.out.2.2.1.fz (k2 + 1)
                have g2 := H5.out.2.2.1.get (k2 + 1) (by have := HK8.out; omega)
                have c1' := H5.out.1.c1
                have ce' := HCE.out w5 H5.out.1
                obtain ⟨w6, hw6⟩ : ∃ w6, w6 = w5.setCell ⟨D, k2 + 1, none⟩ (.int .u8 (d2 : Nat)) := ⟨_, rfl⟩
                rw [← hw6] at P2
                have HW6 : Hid (w5.setCell ⟨D, k2 + 1, none⟩ (.int .u8 (d2 : Nat)) = w6) := hw6.symm
                have H6 : Hid (SxAt w6 R s (.slice (some ⟨g, 0, none⟩) N c) X ∧ ArAt w6 B (arCells fun _ => 0) ∧ ArAt w6 D (arCells (fil X (i + 1))) ∧ Below w.heap.size w w6) := by
                  have hR := HRD.out
                  have hB := HOB.out
                  exact ⟨H5.out.1.ch P2.2 (by omega) (fun q hq => by omega), H5.out.2.1.ch P2.2 (by omega), P2.1, H5.out.2.2.2.trans (P2.2.below (fun x hx => by omega) H5.out.2.2.2.size)⟩
                clear P1 P2 hw5 hw6 hv hk hk2 hd1 hd2 hil hgR e1 e2
                by_cases hgap : 0 ≤ G ∧ G ≤ (i : Int)
                · have q1 : decide (0 ≤ G) = true := decide_eq_true hgap.1
                  have q2 : decide (G ≤ (i : Int)) = true := decide_eq_true hgap.2
                  have s3 : IntKind.i64.wrap (8 - (N : Int)) = 8 - (N : Int) := i64_s _ (by have := HN8.out; omega) (by omega)
                  have s4 : IntKind.i64.wrap (8 - (N : Int) + (i : Int)) = (k : Int) := by
                    have h1 := HK.out
                    have h2 := HN8.out
                    have h3 := HIL.out
                    unfold kI at h1
                    rw [HG.out, q1, q2, ← HN.out] at h1
                    simp at h1
                    rw [i64_s _ (by omega) (by omega)]
                    omega
                  clear hgap
                  go_upto_region 24 with fail
                  rw [HW5.out]
                  go_upto_region 19 with fail
                  rw [HW6.out]
                  clear f1 f2 g1 g2 c1 c2 ce c1' ce'
                  go_wp2_with fail
                  go_roundw
                  case rel => exact ⟨i + 1, HIL.out, by simp, H6.out⟩
                  case measure => have := HIL.out; simp [intOf]; omega
                · have s4 : (i : Int) = (k : Int) := by
                    have h1 := HK.out
                    unfold kI at h1
                    rw [HG.out, if_neg (by simp; omega)] at h1
                    omega
                  by_cases hg0 : 0 ≤ G
                  · have q1 : decide (0 ≤ G) = true := decide_eq_true hg0
                    have q2 : decide (G ≤ (i : Int)) = false := decide_eq_false (by omega)
                    obtain rfl : i = k := by omega
                    clear hgap hg0 s4
                    go_upto_region 24 with fail
                    rw [HW5.out]
                    go_upto_region 19 with fail
                    rw [HW6.out]
                    clear f1 f2 g1 g2 c1 c2 ce c1' ce'
                    go_wp2_with fail
                    go_roundw
                    case rel => exact ⟨i + 1, HIL.out, by simp, H6.out⟩
                    case measure => have := HIL.out; simp [intOf]; omega
                  · have q1 : decide (0 ≤ G) = false := decide_eq_false hg0
                    obtain rfl : i = k := by omega
                    clear hgap hg0 s4
                    go_upto_region 24 with fail
                    rw [HW5.out]
                    go_upto_region 19 with fail
                    rw [HW6.out]
                    clear f1 f2 g1 g2 c1 c2 ce c1' ce'
                    go_wp2_with fail
                    go_roundw
                    case rel => exact ⟨i + 1, HIL.out, by simp, H6.out⟩
                    case measure => have := HIL.out; simp [intOf]; omega
              · have p1 : decide ((i : Int) < (N : Int)) = false := decide_eq_false (by omega)
                have p2 : decide (i < N) = false := decide_eq_false hil
                have c1 := HF.out.1.c1
                have HIN : Hid (i = X.g.length) := by show _ = _; rw [← HN.out]; omega
                clear hil hi
                go_wp2_with (first | (refine wpList_load_ar (.tmp 5) rfl D 0 (fil X i) rfl HF.out.2.2.1.range rfl ?_) | (refine wpList_store_ar (.tmp 2) (.tmp 142) rfl rfl B (fun _ => 0) (fil X i) rfl rfl HF.out.2.1 rfl ?_))
                intro w7 h7 k7
                have H7 : Hid (ArAt w7 B (arCells (fil X i)) ∧ Below w.heap.size w w7) := ⟨h7, HF.out.2.2.2.trans (k7.below (fun x hx => by have := HOB.out; omega) HF.out.2.2.2.size)⟩
                clear h7 k7
                go_wp2_with fail
                refine bodyPost_ret (results_ar3 rfl _ _ B _ rfl H7.out.1) rfl ?_
                exact ⟨by rw [HRES.out, ← HIN.out]; rfl, H7.out.2⟩
        · have HRES : Hid (sixO s = .tuple #[.agg (arCells fun _ => 0), .int .i64 (X.er : Nat), .int .i64 (X.pl : Nat)]) := six_er HXE.out he
          obtain ⟨en, hen⟩ : ∃ e, X.er = e := ⟨_, rfl⟩
          obtain ⟨pn, hpn⟩ : ∃ e, X.pl = e := ⟨_, rfl⟩
          have HE4 : Hid (some (Value.int .i64 ((X.er : Nat) : Int)) = some (Value.int .i64 ((en : Nat) : Int))) := by show _ = _; rw [hen]
          have HE5 : Hid (some (Value.int .i64 ((X.pl : Nat) : Int)) = some (Value.int .i64 ((pn : Nat) : Int))) := by show _ = _; rw [hpn]
          have HEP : Hid (X.er = en ∧ X.pl = pn) := ⟨hen, hpn⟩
          rw [hen] at he
          have e1 : ((en : Int) == 0) = false := by simp; omega
          have e2 : ((en : Int) != 0) = true := by simp; omega
          have e3 : ¬ (en : Int) = 0 := by omega
          have c4 : wr.cell? ⟨R, 4, none⟩ = some (.int .i64 (en : Nat)) := HA.out.1.c4.trans HE4.out
          clear he hen hpn
          go_upto_region 16 with fail
          refine MixH.start (fun A => SxAt A R s lv X ∧ ArAt A B (arCells fun _ => 0) ∧ ArAt A D (arCells fun _ => 0) ∧ Below w.heap.size w A) (by kernel_rfl) ?_
          obtain ⟨wE, hwA⟩ : ∃ W_, W_ = wr.drew := ⟨_, rfl⟩
          have bdr : Below wr.heap.size wr wE := by rw [hwA]; exact (Below.refl _ _).drew
          have hS : SxAt wE R s lv X ∧ ArAt wE B (arCells fun _ => 0) ∧ ArAt wE D (arCells fun _ => 0) ∧ Below w.heap.size w wE := ⟨HA.out.1.below bdr, HA.out.2.1.below bdr, HA.out.2.2.1.below bdr, HA.out.2.2.2.trans (bdr.mono HA.out.2.2.2.size)⟩
          rw [← hwA]
          clear hwA bdr
          refine MixH.takes [false, true, true, true, false, true, true, true] 6 (by kernel_rfl) (by kernel_rfl) (by decide) (by kernel_rfl) hS (fun K hK => ?_)
          simp only [Mix.pick]
          repeat (go_big_quiet_step (fail))
          refine wpQuiet_nil (hK _ ?_)
          clear hK K
          refine MixH.take 5 0 _ (.agg (arCells fun _ => 0)) rfl (by kernel_rfl) (by kernel_rfl) (by kernel_rfl) (by kernel_rfl) (yields_ar (.tmp 5) rfl D 0 (fun _ => 0) rfl rfl (fun A hA => hA.2.2.1.range)) hS (fun a' ha => ?_)
          simp only [Act.put, List.setIfInBounds_toArray, List.set_cons_succ, List.set_cons_zero] at ha
          subst ha
          refine MixH.take 4 4 _ (.int .i64 (en : Nat)) rfl (by kernel_rfl) (by kernel_rfl) (by kernel_rfl) (by kernel_rfl) (yields_int (.tmp 80) rfl ⟨R, 4, none⟩ (.int .i64 (en : Nat)) rfl rfl (fun A hA => hA.1.c4.trans HE4.out)) hS (fun a' ha => ?_)
          simp only [Act.put, List.setIfInBounds_toArray, List.set_cons_succ, List.set_cons_zero] at ha
          subst ha
          refine MixH.take 3 8 _ (.int .i64 (pn : Nat)) rfl (by kernel_rfl) (by kernel_rfl) (by kernel_rfl) (by kernel_rfl) (yields_int (.tmp 84) rfl ⟨R, 5, none⟩ (.int .i64 (pn : Nat)) rfl rfl (fun A hA => hA.1.c5.trans HE5.out)) hS (fun a' ha => ?_)
          simp only [Act.put, List.setIfInBounds_toArray, List.set_cons_succ, List.set_cons_zero] at ha
          subst ha
          refine MixH.one [false, false, false, false, false, false, false, false, false, true] 2 9 _ rfl rfl (by kernel_rfl) (by kernel_rfl) (fun K hK => ?_)
          simp only [Mix.pick]
          go_wp2_with (refine wpList_store_ar (.tmp 2) (.tmp 77) rfl rfl B (fun _ => 0) (fun _ => 0) rfl rfl hS.2.1 rfl ?_)
          intro w7 h7 k7
          have hS : SxAt w7 R s lv X ∧ ArAt w7 B (arCells fun _ => 0) ∧ ArAt w7 D (arCells fun _ => 0) ∧ Below w.heap.size w w7 := by
            have hR := HRD.out
            have hB := HOB.out
            exact ⟨hS.1.ch k7 (by omega) (fun q hq => by omega), h7, hS.2.2.1.ch k7 (by omega), hS.2.2.2.trans (k7.below (fun x hx => by omega) hS.2.2.2.size)⟩
          clear h7 k7
          go_wp2_with fail
          refine ⟨rfl, hK _ _ hS ?_⟩
          clear hK K
          refine MixH.takes [false, false, false, false, false, false, false, false, false, false, true, true] 0 (by kernel_rfl) (by kernel_rfl) (by decide) (by kernel_rfl) hS (fun K hK => ?_)
          simp only [Mix.pick]
          repeat (go_big_quiet_step (fail))
          refine wpQuiet_nil (hK _ ?_)
          clear hK K
          refine MixH.done (by kernel_rfl) ?_
          have H7 : Hid (SxAt w7 R s lv X ∧ ArAt w7 B (arCells fun _ => 0) ∧ ArAt w7 D (arCells fun _ => 0) ∧ Below w.heap.size w w7) := hS
          clear hS c4
          go_wp2_with fail
          refine bodyPost_ret (results_ar3 rfl _ _ B _ rfl H7.out.2.1) rfl ?_
          exact ⟨by rw [HRES.out, HEP.out.1, HEP.out.2]; rfl, H7.out.2.2.2⟩
      | false =>
        by_cases he : X.er = 0
        rotate_left
        · have HXE : Hid (sxL s = X) := by show _ = _; rw [← HI.out.2.1]; exact slp_end (by simp [he]) f
          have HRES : Hid (sixO s = .tuple #[.agg (arCells fun _ => 0), .int .i64 (X.er : Nat), .int .i64 (X.pl : Nat)]) := six_er HXE.out he
          obtain ⟨en, hen⟩ : ∃ e, X.er = e := ⟨_, rfl⟩
          obtain ⟨pn, hpn⟩ : ∃ e, X.pl = e := ⟨_, rfl⟩
          have HE4 : Hid (some (Value.int .i64 ((X.er : Nat) : Int)) = some (Value.int .i64 ((en : Nat) : Int))) := by show _ = _; rw [hen]
          have HE5 : Hid (some (Value.int .i64 ((X.pl : Nat) : Int)) = some (Value.int .i64 ((pn : Nat) : Int))) := by show _ = _; rw [hpn]
          have HEP : Hid (X.er = en ∧ X.pl = pn) := ⟨hen, hpn⟩
          rw [hen] at he
          have e1 : ((en : Int) == 0) = false := by simp; omega
          have e2 : ((en : Int) != 0) = true := by simp; omega
          have e3 : ¬ (en : Int) = 0 := by omega
          have c4 : wr.cell? ⟨R, 4, none⟩ = some (.int .i64 (en : Nat)) := HA.out.1.c4.trans HE4.out
          clear he hen hpn
          go_upto_region 16 with fail
          refine MixH.start (fun A => SxAt A R s lv X ∧ ArAt A B (arCells fun _ => 0) ∧ ArAt A D (arCells fun _ => 0) ∧ Below w.heap.size w A) (by kernel_rfl) ?_
          obtain ⟨wE, hwA⟩ : ∃ W_, W_ = wr.drew := ⟨_, rfl⟩
          have bdr : Below wr.heap.size wr wE := by rw [hwA]; exact (Below.refl _ _).drew
          have hS : SxAt wE R s lv X ∧ ArAt wE B (arCells fun _ => 0) ∧ ArAt wE D (arCells fun _ => 0) ∧ Below w.heap.size w wE := ⟨HA.out.1.below bdr, HA.out.2.1.below bdr, HA.out.2.2.1.below bdr, HA.out.2.2.2.trans (bdr.mono HA.out.2.2.2.size)⟩
          rw [← hwA]
          clear hwA bdr
          refine MixH.takes [false, true, true, true, false, true, true, true] 6 (by kernel_rfl) (by kernel_rfl) (by decide) (by kernel_rfl) hS (fun K hK => ?_)
          simp only [Mix.pick]
          repeat (go_big_quiet_step (fail))
          refine wpQuiet_nil (hK _ ?_)
          clear hK K
          refine MixH.take 5 0 _ (.agg (arCells fun _ => 0)) rfl (by kernel_rfl) (by kernel_rfl) (by kernel_rfl) (by kernel_rfl) (yields_ar (.tmp 5) rfl D 0 (fun _ => 0) rfl rfl (fun A hA => hA.2.2.1.range)) hS (fun a' ha => ?_)
          simp only [Act.put, List.setIfInBounds_toArray, List.set_cons_succ, List.set_cons_zero] at ha
          subst ha
          refine MixH.take 4 4 _ (.int .i64 (en : Nat)) rfl (by kernel_rfl) (by kernel_rfl) (by kernel_rfl) (by kernel_rfl) (yields_int (.tmp 80) rfl ⟨R, 4, none⟩ (.int .i64 (en : Nat)) rfl rfl (fun A hA => hA.1.c4.trans HE4.out)) hS (fun a' ha => ?_)
          simp only [Act.put, List.setIfInBounds_toArray, List.set_cons_succ, List.set_cons_zero] at ha
          subst ha
          refine MixH.take 3 8 _ (.int .i64 (pn : Nat)) rfl (by kernel_rfl) (by kernel_rfl) (by kernel_rfl) (by kernel_rfl) (yields_int (.tmp 84) rfl ⟨R, 5, none⟩ (.int .i64 (pn : Nat)) rfl rfl (fun A hA => hA.1.c5.trans HE5.out)) hS (fun a' ha => ?_)
          simp only [Act.put, List.setIfInBounds_toArray, List.set_cons_succ, List.set_cons_zero] at ha
          subst ha
          refine MixH.one [false, false, false, false, false, false, false, false, false, true] 2 9 _ rfl rfl (by kernel_rfl) (by kernel_rfl) (fun K hK => ?_)
          simp only [Mix.pick]
          go_wp2_with (refine wpList_store_ar (.tmp 2) (.tmp 77) rfl rfl B (fun _ => 0) (fun _ => 0) rfl rfl hS.2.1 rfl ?_)
          intro w7 h7 k7
          have hS : SxAt w7 R s lv X ∧ ArAt w7 B (arCells fun _ => 0) ∧ ArAt w7 D (arCells fun _ => 0) ∧ Below w.heap.size w w7 := by
            have hR := HRD.out
            have hB := HOB.out
            exact ⟨hS.1.ch k7 (by omega) (fun q hq => by omega), h7, hS.2.2.1.ch k7 (by omega), hS.2.2.2.trans (k7.below (fun x hx => by omega) hS.2.2.2.size)⟩
          clear h7 k7
          go_wp2_with fail
          refine ⟨rfl, hK _ _ hS ?_⟩
          clear hK K
          refine MixH.takes [false, false, false, false, false, false, false, false, false, false, true, true] 0 (by kernel_rfl) (by kernel_rfl) (by decide) (by kernel_rfl) hS (fun K hK => ?_)
          simp only [Mix.pick]
          repeat (go_big_quiet_step (fail))
          refine wpQuiet_nil (hK _ ?_)
          clear hK K
          refine MixH.done (by kernel_rfl) ?_
          have H7 : Hid (SxAt w7 R s lv X ∧ ArAt w7 B (arCells fun _ => 0) ∧ ArAt w7 D (arCells fun _ => 0) ∧ Below w.heap.size w w7) := hS
          clear hS c4
          go_wp2_with fail
          refine bodyPost_ret (results_ar3 rfl _ _ B _ rfl H7.out.2.1) rfl ?_
          exact ⟨by rw [HRES.out, HEP.out.1, HEP.out.2]; rfl, H7.out.2.2.2⟩
        have HER : Hid (X.er = 0) := he
        clear he
        have HM0 : Hid (mZ s (X, false) = s.size + 1 - X.p) := by show _ = _; unfold mZ; rw [HER.out]; rfl
        obtain ⟨f', hf'⟩ : ∃ f', f = f' + 1 := ⟨f - 1, by have h1 := HI.out.2.2; have h2 := HM0.out; have h3 := HOK.out.p; omega⟩
        subst hf'
        have HSL : Hid (slp s f' (rnd s X) = sxL s) := by
          have h1 := HI.out.2.1
          unfold slp at h1
          rw [HER.out] at h1
          exact h1
        have HLE : Hid (mZ s (rnd s X) < s.size + 1 - X.p) := rnd_less' HOK.out
        have HLF : Hid (mZ s (rnd s X) ≤ f') := by have h1 := HLE.out; have h2 := HI.out.2.2; have h3 := HM0.out; show _ ≤ _; omega
        have HME : Hid (sxM s R (.bool false) wr = s.size + 1 - X.p) := by show _ = _; rw [sxM_eq HA.out.1, HM0.out]
        have c4 : wr.cell? ⟨R, 4, none⟩ = some (.int .i64 0) := HA.out.1.c4.trans (by rw [HER.out]; rfl)
        go_wp2_with fail
        refine (group6_any R s lv X wr HA.out.1 HOK.out.p HS.out HOK.out.l).mono ?_
        rintro e1 w4 ⟨rfl, ⟨lv2, k1⟩, k2⟩
        obtain ⟨Y, hY⟩ : ∃ Y, grp s X = Y := ⟨_, rfl⟩
        rw [hY] at k1 ⊢
        have HY : Hid (grp s X = Y) := hY
        have HAY : Hid (SxAt w4 R s lv2 Y.1 ∧ ArAt w4 B (arCells fun _ => 0) ∧ ArAt w4 D (arCells fun _ => 0) ∧ Below w.heap.size w w4) := by
          have hR := HRD.out
          have hB := HOB.out
          exact ⟨k1, HA.out.2.1.lowb k2 (by omega), HA.out.2.2.1.lowb k2 (by omega), HA.out.2.2.2.trans (k2.mono (by omega))⟩
        obtain ⟨Y1, bd⟩ := Y
        simp only at HAY ⊢
        clear hY k1 k2 c4
        cases bd with
        | true =>
          have HRN : Hid (rnd s X = (Y1, true)) := by show _ = _; unfold rnd; rw [HY.out]; rfl
          go_wp2
          go_roundw
          case rel => exact ⟨Y1, true, lv2, f', rfl, ⟨by have := rnd_ok' HOK.out; rw [HRN.out] at this; exact this, by have := HSL.out; rw [HRN.out] at this; exact this, by have := HLF.out; rw [HRN.out] at this; exact this⟩, HAY.out⟩
          case measure => rw [HME.out, sxM_eq HAY.out.1]; have := HLE.out; rw [HRN.out] at this; exact this
        | false =>
          by_cases he : Y1.er = 0
          · have HYE : Hid (Y1.er = 0) := he
            have HRN : Hid (rnd s X = btw s Y1) := by show _ = _; unfold rnd; rw [HY.out]; simp only; rw [he]; rfl
            have HYP : Hid (Y1.p < s.size) := by have := (grp_go' HOK.out (by rw [HY.out])).2.1; rw [HY.out] at this; exact this
            have c4 : w4.cell? ⟨R, 4, none⟩ = some (.int .i64 0) := HAY.out.1.c4.trans (by rw [he]; rfl)
            clear he
            go_wp2_with fail
            refine (between_any R s lv2 Y1 w4 HAY.out.1 HYP.out HS.out).mono ?_
            rintro e1 w5 ⟨rfl, k1, k2⟩
            obtain ⟨U, hU⟩ : ∃ U, btw s Y1 = U := ⟨_, rfl⟩
            rw [hU] at k1 ⊢
            have HU : Hid (rnd s X = U) := HRN.out.trans hU
            have HAU : Hid (SxAt w5 R s lv2 U.1 ∧ ArAt w5 B (arCells fun _ => 0) ∧ ArAt w5 D (arCells fun _ => 0) ∧ Below w.heap.size w w5) := by
              have hR := HRD.out
              have hB := HOB.out
              exact ⟨k1, HAY.out.2.1.ch k2 (by omega), HAY.out.2.2.1.ch k2 (by omega), HAY.out.2.2.2.trans (k2.below (fun x hx => by omega) HAY.out.2.2.2.size)⟩
            obtain ⟨U1, ud⟩ := U
            simp only at HAU ⊢
            clear hU k1 k2 c4
            go_wp2
            go_roundw
            case rel => exact ⟨U1, ud, lv2, f', rfl, ⟨by have := rnd_ok' HOK.out; rw [HU.out] at this; exact this, by have := HSL.out; rw [HU.out] at this; exact this, by have := HLF.out; rw [HU.out] at this; exact this⟩, HAU.out⟩
            case measure => rw [HME.out, sxM_eq HAU.out.1]; have := HLE.out; rw [HU.out] at this; exact this
          · have HRN : Hid (rnd s X = (Y1, false)) := by show _ = _; unfold rnd; rw [HY.out]; simp [he]
            have c4 := HAY.out.1.c4
            have q1 : (((Y1.er : Nat) : Int) == 0) = false := by simp [he]
            clear he
            go_wp2
            go_roundw
            case rel => exact ⟨Y1, false, lv2, f', rfl, ⟨by have := rnd_ok' HOK.out; rw [HRN.out] at this; exact this, by have := HSL.out; rw [HRN.out] at this; exact this, by have := HLF.out; rw [HRN.out] at this; exact this⟩, HAY.out⟩
            case measure => rw [HME.out, sxM_eq HAY.out.1]; have := HLE.out; rw [HRN.out] at this; exact this
end Go.Proofs.YteldiggaooeeeaaGreatDoor
