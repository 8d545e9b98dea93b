/-
  weirref4: six.group, of any text.
-/
import Derived.Test.YteldiggaooeeeaaGreatDoorZba
import Derived.Test.YteldiggaooeeeaaGreatDoorZw
import Derived.Test.YteldiggaooeeeaaGreatDoorZg
import Derived.Test.YteldiggaooeeeaaGreatDoorMixJ
namespace Go.Proofs.YteldiggaooeeeaaGreatDoor
open Go.RowKit Go.Maps

theorem sx_c1 {A : World} {R : Nat} {s : ByteArray} {lv : Value} {X : SX} (h : A.heap[R]? = some (.cells (sxC s lv X) 147 (0, 0))) : A.cell? ⟨R, 1, none⟩ = some lv := by
  simp [World.cell?, h, sxC]
set_option maxHeartbeats 1600000 in
set_option maxRecDepth 100000 in
theorem group6_any (R : Nat) (s : ByteArray) (lv : Value) (X : SX) (w : World) (h : SxAt w R s lv X) (hp : X.p ≤ s.size) (hs : s.size ≤ 1000) (hl : X.g.length ≤ 8) : Calls Tryz.prog 105 #[.pointer (some ⟨R, 0, none⟩)] w fun r w' => r = .returned (.bool (grp s X).2) ∧ (∃ lv', SxAt w' R s lv' (grp s X).1) ∧ Below R w w' := by
  obtain ⟨N, hN⟩ : ∃ N, N = X.g.length := ⟨_, rfl⟩
  obtain ⟨a, c, hlv⟩ := owns_shape h.own
  rw [← hN] at hlv hl
  subst hlv
  have HN : Hid (N = X.g.length) := hN
  have HN8 : Hid (N ≤ 8) := hl
  obtain ⟨P, hP⟩ : ∃ P, X.p = P := ⟨_, rfl⟩
  have HP : Hid (X.p = P) := hP
  have HP3 : Hid (some (Value.int .i64 ((X.p : Nat) : Int)) = some (Value.int .i64 ((P : Nat) : Int))) := by show _ = _; rw [hP]
  have HPS : Hid (P ≤ s.size) := by show P ≤ s.size; rw [← hP]; exact hp
  have HS : Hid (s.size ≤ 1000) := hs
  have HR0 : Hid (R ≤ w.heap.size) := Nat.le_of_lt h.lt
  have H0 : Hid (SxAt w R s (.slice a N c) X ∧ Below w.heap.size w w) := ⟨h, Below.refl _ _⟩
  obtain ⟨i0, hi, hz0, hz1, hz2⟩ := info_parts Tryz.infoInt
  have HI : Hid (Tryz.prog.info? 3 = some i0 ∧ i0.zero = some (.int .i64 0) ∧ i0.size = 1 ∧ i0.bytes = 8) := ⟨hi, hz0, hz1, hz2⟩
  have c0 := h.c0
  have c3 : w.cell? ⟨R, 3, none⟩ = some (.int .i64 (P : Nat)) := h.c3.trans HP3.out
  clear hi hz0 hz1 hz2 hN hl hP hp hs h
  go_enter Tryz.func105, Tryz.ntmps105
  go_wp2
  go_loopw [3, 4] (fun qv nv wr => ∃ q n : Nat, P ≤ q ∧ q ≤ s.size ∧ qv = .int .i64 (q : Nat) ∧ nv = .int .i64 (n : Nat) ∧ Hid (scP s hxB q = scP s hxB P) ∧ Hid (n = hxN s P (min (q - P) 4)) ∧ w = wr) (fun qv _ _ => s.size - (intOf qv).toNat)
  case atStart => exact ⟨P, 0, Nat.le_refl _, HPS.out, rfl, rfl, rfl, by show _ = _; rw [Nat.sub_self, Nat.zero_min]; rfl, rfl⟩
  case round =>
    obtain ⟨q, n, hq1, hq2, rfl, rfl, HQ, HNN, rfl⟩ := hrel
    have HQB : Hid (P ≤ q ∧ q ≤ s.size) := ⟨hq1, hq2⟩
    have HN6 : Hid (n < 65536) := by show n < 65536; rw [HNN.out]; exact hxN_small (Nat.min_le_right _ _)
    clear hq1 hq2
    by_cases hlt : q < s.size
    · have p1 : decide ((q : Int) < (s.size : Int)) = true := decide_eq_true (by omega)
      have p2 : decide (q < s.size) = true := decide_eq_true hlt
      have w1 : IntKind.i64.wrap ((q : Int) + 1) = (q : Int) + 1 := i64_s _ (by omega) (by have := HS.out; omega)
      have w2 : IntKind.i64.wrap ((q : Int) - (P : Int)) = (q : Int) - (P : Int) := i64_s _ (by have := HS.out; have := HPS.out; omega) (by have := HS.out; omega)
      have HLT : Hid (q < s.size) := hlt
      clear hlt
      obtain ⟨z, hz⟩ : ∃ z, wth (sB s q) = z := ⟨_, rfl⟩
      have HZ0 : Hid (wth (sB s q) = z) := hz
      clear hz
      go_wp2_with (refine wpList_sB (.tmp 27) (.tmp 28) rfl s q _ rfl rfl rfl HLT.out rfl ?_)
      refine (worth_any (sB s q) w (sB_lt s q)).mono ?_
      rintro e1 wz ⟨rfl, rfl⟩
      rw [HZ0.out]
      by_cases hzn : 0 ≤ z
      · have z1 : decide (0 ≤ z) = true := decide_eq_true hzn
        obtain ⟨d, hd⟩ : ∃ d : Nat, z = (d : Int) := ⟨z.toNat, by omega⟩
        subst hd
        have HB : Hid (hxB (sB s q) = true) := by show _ = _; unfold hxB; rw [HZ0.out]; exact z1
        have HD : Hid (d ≤ 15) := by have := wth_le (sB s q); have := HZ0.out; show d ≤ 15; omega
        clear hzn
        by_cases h4 : q - P < 4
        · have d4 : decide ((q : Int) - (P : Int) < 4) = true := decide_eq_true (by have := HQB.out; omega)
          have H4 : Hid (q - P < 4) := h4
          have x1 : IntKind.i64.wrap (16 * (n : Int)) = 16 * (n : Int) := by rw [IntKind.wrap_i64]; have := HN6.out; omega
          have HX2 : Hid (16 * (n : Int) + (d : Int) ≤ 1048591) := by have := HN6.out; have := HD.out; show _ ≤ _; omega
          have x2 : IntKind.i64.wrap (16 * (n : Int) + (d : Int)) = 16 * (n : Int) + (d : Int) := by rw [IntKind.wrap_i64]; have := HX2.out; omega
          clear h4
          go_wp2_with (refine wpList_sB (.tmp 45) (.tmp 46) rfl s q _ rfl rfl rfl HLT.out rfl ?_)
          refine (worth_any (sB s q) w (sB_lt s q)).mono ?_
          rintro e1 wz ⟨rfl, rfl⟩
          rw [HZ0.out]
          go_wp2
          go_roundw
          case rel =>
            refine ⟨q + 1, 16 * n + d, by have := HQB.out; omega, HLT.out, by simp, by simp, ?_, ?_, by first | rfl | trivial⟩
            · show _ = _; rw [← scP_step HLT.out HB.out]; exact HQ.out
            · show _ = _
              have h5 := H4.out
              have h6 := HQB.out
              rw [show min (q + 1 - P) 4 = (q - P) + 1 by omega]
              unfold hxN
              rw [show P + (q - P) = q by omega, HZ0.out, HNN.out, show min (q - P) 4 = q - P by omega]
              rfl
          case measure => have := HLT.out; simp [intOf]; omega
        · have d4 : decide ((q : Int) - (P : Int) < 4) = false := decide_eq_false (by have := HQB.out; omega)
          have H4 : Hid (4 ≤ q - P) := by show 4 ≤ q - P; omega
          clear h4
          go_wp2
          go_roundw
          case rel =>
            refine ⟨q + 1, n, by have := HQB.out; omega, HLT.out, by simp, rfl, ?_, ?_, by first | rfl | trivial⟩
            · show _ = _; rw [← scP_step HLT.out HB.out]; exact HQ.out
            · show _ = _
              have h5 := H4.out
              rw [HNN.out, show min (q + 1 - P) 4 = min (q - P) 4 by omega]
          case measure => have := HLT.out; simp [intOf]; omega
      · have z1 : decide (0 ≤ z) = false := decide_eq_false hzn
        have HQE : Hid (scP s hxB P = q) := by show _ = _; rw [← HQ.out]; exact scP_stop (by unfold hxB; rw [HZ0.out, z1]; simp)
        clear hzn
        have HG0 : Hid (grp s X = grpq s X q) := by show _ = _; unfold grp; rw [HP.out, HQE.out]
        by_cases hqp : q = P
        · have e1 : ((q : Int) == (P : Int)) = true := by simp [hqp]
          have e2 : (q == P) = true := by simp [hqp]
          have HZ : Hid (grp s X = (X.fail (hrE s P).1 (hrE s P).2, true)) := by show _ = _; rw [HG0.out]; unfold grpq; rw [HP.out, e2]; rfl
          clear hqp
          go_upto_region 8 with fail
          refine MixH.start (fun A => SxAt A R s (.slice a N c) X ∧ Below w.heap.size w A) (by kernel_rfl) ?_
          obtain ⟨wA, hwA⟩ : ∃ wA, wA = w.drew := ⟨_, rfl⟩
          have bdr : Below w.heap.size w wA := by rw [hwA]; exact (Below.refl _ _).drew
          have hS : SxAt wA R s (.slice a N c) X ∧ Below w.heap.size w wA := ⟨H0.out.1.below bdr, bthen H0.out.2 bdr⟩
          rw [← hwA]
          clear hwA bdr
          refine MixH.takes [true, true, true, false, true, true, true] 8 (by kernel_rfl) (by kernel_rfl) (by decide) (by kernel_rfl) hS (fun K hK => ?_)
          simp only [Mix.pick]
          repeat (go_big_quiet_step (fail))
          refine wpQuiet_nil (hK _ ?_)
          clear hK K
          refine MixH.take 7 3 _ (.string s) rfl (by kernel_rfl) (by kernel_rfl) (by kernel_rfl) (by kernel_rfl) (yields_str (.tmp 61) rfl ⟨R, 0, none⟩ (.string s) rfl rfl (fun A hA => hA.1.c0)) hS (fun a' ha => ?_)
          simp only [Act.put, List.setIfInBounds_toArray, List.set_cons_succ, List.set_cons_zero] at ha
          subst ha
          refine MixH.take 6 7 _ (.int .i64 (P : Nat)) rfl (by kernel_rfl) (by kernel_rfl) (by kernel_rfl) (by kernel_rfl) (yields_int (.tmp 65) rfl ⟨R, 3, none⟩ (.int .i64 (P : Nat)) rfl rfl (fun A hA => hA.1.c3.trans HP3.out)) hS (fun a' ha => ?_)
          simp only [Act.put, List.setIfInBounds_toArray, List.set_cons_succ, List.set_cons_zero] at ha
          subst ha
          refine MixH.one [false, false, false, false, false, false, false, false, true] 5 8 _ rfl rfl (by kernel_rfl) (by kernel_rfl) (fun K hK => ?_)
          simp only [Mix.pick]
          go_wp2_with fail
          refine Calls.mono (here_any s P wA) ?_
          rintro e1 wz ⟨rfl, rfl⟩
          go_wp2_with fail
          refine ⟨rfl, hK _ _ hS ?_⟩
          clear hK K
          refine MixH.takes [false, false, false, false, false, false, false, false, false, true, true, true, true, true] 0 (by kernel_rfl) (by kernel_rfl) (by decide) (by kernel_rfl) hS (fun K hK => ?_)
          simp only [Mix.pick]
          repeat (go_big_quiet_step (fail))
          refine wpQuiet_nil (hK _ ?_)
          clear hK K
          refine MixH.done (by kernel_rfl) ?_
          have H1 : Hid (SxAt wA R s (.slice a N c) X ∧ Below w.heap.size w wA) := hS
          clear hS c0 c3
          go_wp2_with fail
          refine (fail_any R s (.slice a N c) X (hrE s P).1 (hrE s P).2 wA H1.out.1).mono ?_
          rintro e3 w3 ⟨rfl, k1, k2⟩
          have H2 : Hid (SxAt w3 R s (.slice a N c) (X.fail (hrE s P).1 (hrE s P).2) ∧ Below R w w3) := ⟨k1, (H1.out.2.mono HR0.out).trans (k2.below (fun x hx => by omega) (Nat.le_of_lt H1.out.1.lt))⟩
          clear k1 k2
          go_wp2_with fail
          go_ret
          exact ⟨by rw [HZ.out]; rfl, ⟨_, by rw [HZ.out]; exact H2.out.1⟩, H2.out.2⟩
        · have e1 : ((q : Int) == (P : Int)) = false := by simp; omega
          have e2 : (q == P) = false := by simp [hqp]
          go_upto_region 11 with fail
          go_cut [7] (fun u wx => u = .bool (tlB s X q) ∧ w = wx)
          case first =>
            by_cases h46 : sB s q = 46
            · have f1 : (((sB s q : Nat) : Int) == 46) = true := by simp; omega
              have f1' : ((sB s q : Nat) : Int) = 46 := by omega
              by_cases hP0 : 0 < P
              · have HT : Hid (tlB s X q = true) := by show tlB s X q = true; unfold tlB; rw [HP.out, h46, p2, decide_eq_true hP0]; rfl
                have f2 : decide ((0 : Int) < (P : Int)) = true := decide_eq_true (by omega)
                have f3 : decide (0 < P) = true := decide_eq_true hP0
                have f4 : (0 : Int) < (P : Int) := by omega
                clear h46
                go_wp2_with (refine wpList_sB (.tmp 85) (.tmp 86) rfl s q _ rfl rfl rfl HLT.out rfl ?_)
                go_meet
                exact ⟨by rw [HT.out], rfl⟩
              · have HT : Hid (tlB s X q = false) := by show tlB s X q = false; unfold tlB; rw [HP.out, decide_eq_false hP0]; simp
                have f2 : decide ((0 : Int) < (P : Int)) = false := decide_eq_false (by omega)
                have f3 : decide (0 < P) = false := decide_eq_false hP0
                have f4 : ¬ (0 : Int) < (P : Int) := by omega
                clear h46
                go_wp2_with (refine wpList_sB (.tmp 85) (.tmp 86) rfl s q _ rfl rfl rfl HLT.out rfl ?_)
                go_meet
                exact ⟨by rw [HT.out], rfl⟩
            · have HT : Hid (tlB s X q = false) := by show tlB s X q = false; unfold tlB; simp [h46]
              have f1 : (((sB s q : Nat) : Int) == 46) = false := by simp; omega
              have f1' : ¬ ((sB s q : Nat) : Int) = 46 := by omega
              clear h46
              go_wp2_with (refine wpList_sB (.tmp 85) (.tmp 86) rfl s q _ rfl rfl rfl HLT.out rfl ?_)
              go_meet
              exact ⟨by rw [HT.out], rfl⟩
          case rest =>
            obtain ⟨rfl, rfl⟩ := hcut
            cases ht : tlB s X q with
            | false =>
              have HTL : Hid (tlB s X q = false) := ht
              clear ht
              have e1 : ((q : Int) == (P : Int)) = false := by simp; omega
              have e2 : (q == P) = false := by simp [hqp]
              have HZ : Hid (grp s X = if decide (rmN X < N + 1) then (X.fail 44 P, true) else if decide (4 < q - P) then (X.fail 43 P, true) else ({ X with g := X.g ++ [hxN s P (q - P)], p := q }, q == s.size)) := by show _ = _; rw [HG0.out]; unfold grpq; rw [HP.out, e2, HTL.out, ← HN.out]; rfl
              have HQP : Hid (P < q) := by have := HQB.out; show P < q; omega
              have w5 : IntKind.i64.wrap ((N : Int) + 1) = (N : Int) + 1 := i64_s _ (by omega) (by have := HN8.out; omega)
              obtain ⟨m, hm⟩ : ∃ m, rmN X = m := ⟨_, rfl⟩
              have HM : Hid (rmN X = m) := hm
              clear hqp hm
              go_upto_region 15 with fail
              refine MixH.start (fun A => SxAt A R s (.slice a N c) X ∧ Below w.heap.size w A) (by kernel_rfl) ?_
              obtain ⟨wA, hwA⟩ : ∃ wA, wA = w.drew := ⟨_, rfl⟩
              have bdr : Below w.heap.size w wA := by rw [hwA]; exact (Below.refl _ _).drew
              have hS : SxAt wA R s (.slice a N c) X ∧ Below w.heap.size w wA := ⟨H0.out.1.below bdr, bthen H0.out.2 bdr⟩
              rw [← hwA]
              clear hwA bdr
              refine MixH.takes [true, true, true, false, false, true, false, true] 5 (by kernel_rfl) (by kernel_rfl) (by decide) (by kernel_rfl) hS (fun K hK => ?_)
              simp only [Mix.pick]
              repeat (go_big_quiet_step (fail))
              refine wpQuiet_nil (hK _ ?_)
              clear hK K
              refine MixH.take 4 3 _ (.slice a N c) rfl (by kernel_rfl) (by kernel_rfl) (by kernel_rfl) (by kernel_rfl) (yields_lst (.tmp 100) rfl ⟨R, 1, none⟩ (.slice a N c) rfl rfl (fun A hA => hA.1.c1)) hS (fun a' ha => ?_)
              simp only [Act.put, List.setIfInBounds_toArray, List.set_cons_succ, List.set_cons_zero] at ha
              subst ha
              refine MixH.takes [false, false, false, false, true, false, true] 2 (by kernel_rfl) (by kernel_rfl) (by decide) (by kernel_rfl) hS (fun K hK => ?_)
              simp only [Mix.pick]
              repeat (go_big_quiet_step (fail))
              refine wpQuiet_nil (hK _ ?_)
              clear hK K
              refine MixH.one [false, false, false, false, false, false, false, false, true] 1 8 _ rfl rfl (by kernel_rfl) (by kernel_rfl) (fun K hK => ?_)
              simp only [Mix.pick]
              go_wp2_with fail
              refine Calls.mono (room_any R s (.slice a N c) X wA hS.1) ?_
              rintro e3 wz ⟨rfl, rfl⟩
              rw [HM.out]
              go_wp2_with fail
              refine ⟨rfl, hK _ _ hS ?_⟩
              clear hK K
              refine MixH.takes [false, false, false, false, false, false, false, false, false, true] 0 (by kernel_rfl) (by kernel_rfl) (by decide) (by kernel_rfl) hS (fun K hK => ?_)
              simp only [Mix.pick]
              repeat (go_big_quiet_step (fail))
              refine wpQuiet_nil (hK _ ?_)
              clear hK K
              refine MixH.done (by kernel_rfl) ?_
              have H1 : Hid (SxAt wA R s (.slice a N c) X ∧ Below w.heap.size w wA) := hS
              clear hS c0 c3
              have c0 := H1.out.1.c0
              have c1 := H1.out.1.c1
              have c3 : wA.cell? ⟨R, 3, none⟩ = some (.int .i64 (P : Nat)) := H1.out.1.c3.trans HP3.out
              by_cases hm : m < N + 1
              · have m1 : decide ((m : Int) < (N : Int) + 1) = true := decide_eq_true (by omega)
                have m2 : decide ((m : Int) ≤ (N : Int)) = true := decide_eq_true (by omega)
                have m3 : decide (m ≤ N) = true := decide_eq_true (by omega)
                have m4 : decide (m < N + 1) = true := decide_eq_true (by omega)
                have m5 : (m : Int) < (N : Int) + 1 := by omega
                have HZ2 : Hid (grp s X = (X.fail 44 P, true)) := by show _ = _; rw [HZ.out, HM.out, decide_eq_true hm]; rfl
                clear hm
                go_wp2_with fail
                refine (fail_any R s (.slice a N c) X 44 P wA H1.out.1).mono ?_
                rintro e3 w3 ⟨rfl, k1, k2⟩
                have H2 : Hid (SxAt w3 R s (.slice a N c) (X.fail 44 P) ∧ Below R w w3) := ⟨k1, (H1.out.2.mono HR0.out).trans (k2.below (fun x hx => by omega) (Nat.le_of_lt H1.out.1.lt))⟩
                clear k1 k2
                go_wp2_with fail
                go_ret
                exact ⟨by rw [HZ2.out]; rfl, ⟨_, by rw [HZ2.out]; exact H2.out.1⟩, H2.out.2⟩
              · have m1 : decide ((m : Int) < (N : Int) + 1) = false := decide_eq_false (by omega)
                have m2 : decide ((m : Int) ≤ (N : Int)) = false := decide_eq_false (by omega)
                have m3 : decide (m ≤ N) = false := decide_eq_false (by omega)
                have m4 : decide (m < N + 1) = false := decide_eq_false (by omega)
                have m5 : ¬ (m : Int) < (N : Int) + 1 := by omega
                have HZ2 : Hid (grp s X = if decide (4 < q - P) then (X.fail 43 P, true) else ({ X with g := X.g ++ [hxN s P (q - P)], p := q }, q == s.size)) := by show _ = _; rw [HZ.out, HM.out, decide_eq_false hm]; rfl
                clear hm
                by_cases h4 : 4 < q - P
                · have d4 : decide ((4 : Int) < (q : Int) - (P : Int)) = true := decide_eq_true (by omega)
                  have HZ3 : Hid (grp s X = (X.fail 43 P, true)) := by show _ = _; rw [HZ2.out, decide_eq_true h4]; rfl
                  clear h4
                  go_wp2_with fail
                  refine (fail_any R s (.slice a N c) X 43 P wA H1.out.1).mono ?_
                  rintro e3 w3 ⟨rfl, k1, k2⟩
                  have H2 : Hid (SxAt w3 R s (.slice a N c) (X.fail 43 P) ∧ Below R w w3) := ⟨k1, (H1.out.2.mono HR0.out).trans (k2.below (fun x hx => by omega) (Nat.le_of_lt H1.out.1.lt))⟩
                  clear k1 k2
                  go_wp2_with fail
                  go_ret
                  exact ⟨by rw [HZ3.out]; rfl, ⟨_, by rw [HZ3.out]; exact H2.out.1⟩, H2.out.2⟩
                · have d4 : decide ((4 : Int) < (q : Int) - (P : Int)) = false := decide_eq_false (by have := HQB.out; omega)
                  have HZ3 : Hid (grp s X = ({ X with g := X.g ++ [n], p := q }, q == s.size)) := by
                    show _ = _
                    rw [HZ2.out, decide_eq_false h4, HNN.out, show min (q - P) 4 = q - P by omega]; rfl
                  clear h4
                  have HOA : Hid (wA.ownsRow (R + 1) 3 1 (.slice a N c) N (X.g.map fun n => Value.int .i64 (n : Nat))) := by have := H1.out.1.own; rw [← HN.out] at this; exact this
                  go_wp2_with (at_builtin; refine wpList_append_own_at _ rfl (.tmp 188) (.tmp 190) 145 rfl (R + 1) 3 i0 (.int .i64 0) 1 8 Tryz.underlying145 HI.out.1 HI.out.2.1 HI.out.2.2.1 HI.out.2.2.2 rfl (by decide) _ _ _ rfl (HOA.out.alloc _) ⟨wA.heap.size, 0, none⟩ 1 1 [.int .i64 (n : Nat)] rfl rfl (cellsOne _ _ _) (by intro u hu; simp at hu; subst hu; rfl) (by have := HN8.out; unfold maxLen; omega) (by have := HN8.out; omega) (by have := H1.out.1.lt; simp; omega) ?_)
                  intro v2 w2 ho2 hg2 _ _
                  obtain ⟨N1, hN1⟩ : ∃ N1, N1 = N + 1 := ⟨_, rfl⟩
                  have HN1 : Hid (N1 = N + 1) := hN1
                  rw [← hN1] at ho2
                  obtain ⟨a2, c2, hv2⟩ := owns_shape ho2
                  subst hv2
                  clear hN1
                  have k2 : Ch (fun g => (Value.slice a N c).ownBlock = some g) (wA.alloc (.cells #[.int .i64 (n : Nat)] 3)) w2 := Ch.ofGrown hg2
                  have hne : ∀ g, (Value.slice a N c).ownBlock = some g → R + 1 ≤ g := fun g hg => (HOA.out.lt g hg).1
                  have kb : w2.heap[R]? = some (.cells (sxC s (.slice a N c) X) 147 (0, 0)) := by
                    have h1 := H1.out.1.lt
                    rw [k2.block R (by simp; omega) (fun h => by have := hne R h; omega), Below.heap_alloc wA _ R h1]
                    exact H1.out.1.blk
                  have HK : Hid (w2.heap[R]? = some (.cells (sxC s (.slice a N c) X) 147 (0, 0))) := kb
                  have HO2 : Hid (w2.ownsRow (R + 1) 3 1 (.slice a2 N1 c2) N1 ((X.g ++ [n]).map fun n => Value.int .i64 (n : Nat))) := by show w2.ownsRow _ _ _ _ _ _; rw [List.map_append]; exact ho2
                  have HB2 : Hid (Below R w w2) := (H1.out.2.mono HR0.out).trans ((((Below.refl wA.heap.size wA).alloc (Nat.le_refl _) _).mono (Nat.le_of_lt H1.out.1.lt)).trans (k2.below (fun x hx => by have := hne x hx; omega) (by have := H1.out.1.lt; simp; omega)))
                  have f1 : w2.frozen? ⟨R, 1, none⟩ = false := by simp [World.frozen?, kb]
                  have d1 : w2.cell? ⟨R, 1, none⟩ = some (.slice a N c) := by simp [World.cell?, kb, sxC]
                  have H2 : Hid (SxAt (w2.setCell ⟨R, 1, none⟩ (.slice a2 N1 c2)) R s (.slice a2 N1 c2) { X with g := X.g ++ [n] }) := by
                    refine ⟨?_, ?_⟩
                    · rw [heap_setCell_same w2 R 1 _ _ (.slice a2 N1 c2) kb]; rfl
                    · refine ((Ch.refl (fun q => q = R) w2).set ⟨R, 1, none⟩ (.slice a2 N1 c2) rfl).owns ?_ (fun g h1 h2 => by have := (HO2.out.lt g h1).1; omega)
                      have := HO2.out
                      rw [HN1.out, HN.out] at this
                      rw [HN1.out, HN.out]
                      show w2.ownsRow _ _ _ _ (X.g ++ [n]).length _
                      rw [List.length_append]
                      exact this
                  obtain ⟨w3, hw3⟩ : ∃ w3, w3 = w2.setCell ⟨R, 1, none⟩ (.slice a2 N1 c2) := ⟨_, rfl⟩
                  have HW3 : Hid (w2.setCell ⟨R, 1, none⟩ (.slice a2 N1 c2) = w3) := hw3.symm
                  have H3 : Hid (SxAt w3 R s (.slice a2 N1 c2) { X with g := X.g ++ [n] } ∧ Below R w w3) := by rw [hw3]; exact ⟨H2.out, HB2.out.setCell (Nat.le_refl _) _⟩
                  have f3 := H3.out.1.fz 3
                  have d3 : w3.cell? ⟨R, 3, none⟩ = some (.int .i64 (P : Nat)) := H3.out.1.c3.trans HP3.out
                  obtain ⟨w4, hw4⟩ : ∃ w4, w4 = w3.setCell ⟨R, 3, none⟩ (.int .i64 (q : Nat)) := ⟨_, rfl⟩
                  have HW4 : Hid (w3.setCell ⟨R, 3, none⟩ (.int .i64 (q : Nat)) = w4) := hw4.symm
                  have H4 : Hid (SxAt w4 R s (.slice a2 N1 c2) { X with g := X.g ++ [n], p := q } ∧ Below R w w4) := by rw [hw4]; exact ⟨H3.out.1.set 3 _ rfl rfl, H3.out.2.setCell (Nat.le_refl _) _⟩
                  have d0 := H4.out.1.c0
                  clear ho2 hg2 k2 hne kb H2 hw3 hw4 c0 c1 c3
                  go_upto_region 30 with fail
                  rw [HW3.out]
                  go_upto_region 31 with fail
                  rw [HW4.out]
                  go_wp2_with fail
                  go_ret
                  exact ⟨by rw [HZ3.out]; rw [← Bool.eq_iff_iff.2 (show ((q : Int) == (s.size : Int)) = true ↔ (q == s.size) = true by simp; omega)]; rfl, ⟨_, by rw [HZ3.out]; exact H4.out.1⟩, H4.out.2⟩
            | true =>
              have HTL : Hid (tlB s X q = true) := ht
              clear ht
              have e1 : ((q : Int) == (P : Int)) = false := by simp; omega
              have e2 : (q == P) = false := by simp [hqp]
              have HZ : Hid (grp s X = if decide (rmN X < N + 2) then (X.fail 44 P, true) else match dtd s 4 P [] with | .inr e => (X.fail e.1 e.2, true) | .inl l => ({ X with g := X.g ++ [256 * l.getD 0 0 + l.getD 1 0, 256 * l.getD 2 0 + l.getD 3 0], p := s.size }, true)) := by show _ = _; rw [HG0.out]; unfold grpq; rw [HP.out, e2, HTL.out, ← HN.out]; rfl
              have HQP : Hid (P < q) := by have := HQB.out; show P < q; omega
              have w5 : IntKind.i64.wrap ((N : Int) + 2) = (N : Int) + 2 := i64_s _ (by omega) (by have := HN8.out; omega)
              obtain ⟨m, hm⟩ : ∃ m, rmN X = m := ⟨_, rfl⟩
              have HM : Hid (rmN X = m) := hm
              clear hqp hm
              go_upto_region 15 with fail
              refine MixH.start (fun A => SxAt A R s (.slice a N c) X ∧ Below w.heap.size w A) (by kernel_rfl) ?_
              obtain ⟨wA, hwA⟩ : ∃ wA, wA = w.drew := ⟨_, rfl⟩
              have bdr : Below w.heap.size w wA := by rw [hwA]; exact (Below.refl _ _).drew
              have hS : SxAt wA R s (.slice a N c) X ∧ Below w.heap.size w wA := ⟨H0.out.1.below bdr, bthen H0.out.2 bdr⟩
              rw [← hwA]
              clear hwA bdr
              refine MixH.takes [true, true, true, false, false, true, false, true] 5 (by kernel_rfl) (by kernel_rfl) (by decide) (by kernel_rfl) hS (fun K hK => ?_)
              simp only [Mix.pick]
              repeat (go_big_quiet_step (fail))
              refine wpQuiet_nil (hK _ ?_)
              clear hK K
              refine MixH.take 4 3 _ (.slice a N c) rfl (by kernel_rfl) (by kernel_rfl) (by kernel_rfl) (by kernel_rfl) (yields_lst (.tmp 100) rfl ⟨R, 1, none⟩ (.slice a N c) rfl rfl (fun A hA => hA.1.c1)) hS (fun a' ha => ?_)
              simp only [Act.put, List.setIfInBounds_toArray, List.set_cons_succ, List.set_cons_zero] at ha
              subst ha
              refine MixH.takes [false, false, false, false, true, false, true] 2 (by kernel_rfl) (by kernel_rfl) (by decide) (by kernel_rfl) hS (fun K hK => ?_)
              simp only [Mix.pick]
              repeat (go_big_quiet_step (fail))
              refine wpQuiet_nil (hK _ ?_)
              clear hK K
              refine MixH.one [false, false, false, false, false, false, false, false, true] 1 8 _ rfl rfl (by kernel_rfl) (by kernel_rfl) (fun K hK => ?_)
              simp only [Mix.pick]
              go_wp2_with fail
              refine Calls.mono (room_any R s (.slice a N c) X wA hS.1) ?_
              rintro e3 wz ⟨rfl, rfl⟩
              rw [HM.out]
              go_wp2_with fail
              refine ⟨rfl, hK _ _ hS ?_⟩
              clear hK K
              refine MixH.takes [false, false, false, false, false, false, false, false, false, true] 0 (by kernel_rfl) (by kernel_rfl) (by decide) (by kernel_rfl) hS (fun K hK => ?_)
              simp only [Mix.pick]
              repeat (go_big_quiet_step (fail))
              refine wpQuiet_nil (hK _ ?_)
              clear hK K
              refine MixH.done (by kernel_rfl) ?_
              have H1 : Hid (SxAt wA R s (.slice a N c) X ∧ Below w.heap.size w wA) := hS
              clear hS c0 c3
              have c0 := H1.out.1.c0
              have c1 := H1.out.1.c1
              have c3 : wA.cell? ⟨R, 3, none⟩ = some (.int .i64 (P : Nat)) := H1.out.1.c3.trans HP3.out
              by_cases hm : m < N + 2
              · have m1 : decide ((m : Int) < (N : Int) + 2) = true := decide_eq_true (by omega)
                have m2 : decide ((m : Int) ≤ (N : Int) + 1) = true := decide_eq_true (by omega)
                have m3 : decide (m ≤ N + 1) = true := decide_eq_true (by omega)
                have m4 : decide (m < N + 2) = true := decide_eq_true (by omega)
                have m5 : (m : Int) < (N : Int) + 2 := by omega
                have HZ2 : Hid (grp s X = (X.fail 44 P, true)) := by show _ = _; rw [HZ.out, HM.out, decide_eq_true hm, if_pos rfl]
                clear hm
                go_wp2_with fail
                refine (fail_any R s (.slice a N c) X 44 P wA H1.out.1).mono ?_
                rintro e3 w3 ⟨rfl, k1, k2⟩
                have H2 : Hid (SxAt w3 R s (.slice a N c) (X.fail 44 P) ∧ Below R w w3) := ⟨k1, (H1.out.2.mono HR0.out).trans (k2.below (fun x hx => by omega) (Nat.le_of_lt H1.out.1.lt))⟩
                clear k1 k2
                go_wp2_with fail
                go_ret
                exact ⟨by rw [HZ2.out]; rfl, ⟨_, by rw [HZ2.out]; exact H2.out.1⟩, H2.out.2⟩
              · have m1 : decide ((m : Int) < (N : Int) + 2) = false := decide_eq_false (by omega)
                have m4 : decide (m < N + 2) = false := decide_eq_false (by omega)
                have m5 : ¬ (m : Int) < (N : Int) + 2 := by omega
                have HOC : Hid (wA.ownsRow (R + 1) 3 1 (.slice a N c) N (X.g.map fun n => Value.int .i64 (n : Nat))) := by have := H1.out.1.own; rw [← HN.out] at this; exact this
                have hz2 : grp s X = (match dtd s 4 P [] with | .inr e => (X.fail e.1 e.2, true) | .inl l => ({ X with g := X.g ++ [256 * l.getD 0 0 + l.getD 1 0, 256 * l.getD 2 0 + l.getD 3 0], p := s.size }, true)) := by rw [HZ.out, HM.out, decide_eq_false hm, if_neg (by decide)]
                clear hm
                cases hd : dtd s 4 P [] with
                | inr e =>
                  obtain ⟨e1_, e2_⟩ := e
                  rw [hd] at hz2
                  have HZ3 : Hid (grp s X = (X.fail e1_ e2_, true)) := hz2
                  have HDT : Hid (dtd s 4 P [] = .inr (e1_, e2_)) := hd
                  have hne := (dtd_er 4 P [] hd).1
                  have g1 : (((e1_ : Nat) : Int) != 0) = true := by simp; omega
                  have g2 : ¬ ((e1_ : Nat) : Int) = 0 := by omega
                  clear hd hz2 hne
                  go_upto_region 19 with fail
                  refine MixH.start (fun A => SxAt A R s (.slice a N c) X ∧ Below w.heap.size w A) (by kernel_rfl) ?_
                  obtain ⟨wC, hwA⟩ : ∃ wC, wC = wA.drew := ⟨_, rfl⟩
                  have bdr : Below wA.heap.size wA wC := by rw [hwA]; exact (Below.refl _ _).drew
                  have hS : SxAt wC R s (.slice a N c) X ∧ Below w.heap.size w wC := ⟨H1.out.1.below bdr, bthen H1.out.2 bdr⟩
                  rw [← hwA]
                  clear hwA bdr
                  refine MixH.takes [true, true, true, false, true, true, true] 10 (by kernel_rfl) (by kernel_rfl) (by decide) (by kernel_rfl) hS (fun K hK => ?_)
                  simp only [Mix.pick]
                  repeat (go_big_quiet_step (fail))
                  refine wpQuiet_nil (hK _ ?_)
                  clear hK K
                  refine MixH.take 9 3 _ (.string s) rfl (by kernel_rfl) (by kernel_rfl) (by kernel_rfl) (by kernel_rfl) (yields_str (.tmp 118) rfl ⟨R, 0, none⟩ (.string s) rfl rfl (fun A hA => hA.1.c0)) hS (fun a' ha => ?_)
                  simp only [Act.put, List.setIfInBounds_toArray, List.set_cons_succ, List.set_cons_zero] at ha
                  subst ha
                  refine MixH.take 8 7 _ (.int .i64 (P : Nat)) rfl (by kernel_rfl) (by kernel_rfl) (by kernel_rfl) (by kernel_rfl) (yields_int (.tmp 122) rfl ⟨R, 3, none⟩ (.int .i64 (P : Nat)) rfl rfl (fun A hA => hA.1.c3.trans HP3.out)) hS (fun a' ha => ?_)
                  simp only [Act.put, List.setIfInBounds_toArray, List.set_cons_succ, List.set_cons_zero] at ha
                  subst ha
                  refine MixH.one [false, false, false, false, false, false, false, false, true] 7 8 _ rfl rfl (by kernel_rfl) (by kernel_rfl) (fun K hK => ?_)
                  simp only [Mix.pick]
                  go_wp2_with fail
                  refine Calls.mono (dotted_any s P wC HS.out HPS.out) ?_
                  rintro e1 w1 ⟨hr, hb⟩
                  unfold DtR at hr
                  rw [HDT.out] at hr
                  obtain rfl := hr
                  have hS : SxAt w1 R s (.slice a N c) X ∧ Below w.heap.size w w1 := ⟨hS.1.below hb, hS.2.trans (hb.mono hS.2.size)⟩
                  clear hb
                  go_wp2_with fail
                  refine ⟨rfl, hK _ _ hS ?_⟩
                  clear hK K
                  refine MixH.takes [false, false, false, false, false, false, false, false, false, true, true, true, true, true, true, true] 0 (by kernel_rfl) (by kernel_rfl) (by decide) (by kernel_rfl) hS (fun K hK => ?_)
                  simp only [Mix.pick]
                  repeat (go_big_quiet_step (fail))
                  refine wpQuiet_nil (hK _ ?_)
                  clear hK K
                  refine MixH.done (by kernel_rfl) ?_
                  have HX2 : Hid (SxAt w1 R s (.slice a N c) X ∧ Below w.heap.size w w1) := hS
                  clear hS
                  go_wp2_with fail
                  refine (fail_any R s (.slice a N c) X e1_ e2_ w1 HX2.out.1).mono ?_
                  rintro e3 w3 ⟨rfl, k1, k2⟩
                  have H2 : Hid (SxAt w3 R s (.slice a N c) (X.fail e1_ e2_) ∧ Below R w w3) := ⟨k1, (HX2.out.2.mono HR0.out).trans (k2.below (fun x hx => by omega) (Nat.le_of_lt HX2.out.1.lt))⟩
                  clear k1 k2
                  go_wp2_with fail
                  go_ret
                  exact ⟨by rw [HZ3.out]; rfl, ⟨_, by rw [HZ3.out]; exact H2.out.1⟩, H2.out.2⟩
                | inl l =>
                  rw [hd] at hz2
                  have HZ3 : Hid (grp s X = ({ X with g := X.g ++ [256 * l.getD 0 0 + l.getD 1 0, 256 * l.getD 2 0 + l.getD 3 0], p := s.size }, true)) := hz2
                  have HDT : Hid (dtd s 4 P [] = .inl l) := hd
                  have HL4 : Hid (l.length = 4 ∧ ∀ i, l.getD i 0 < 256) := by
                    obtain ⟨t, ht, h4, hb⟩ := dtd_ok 4 P [] hd
                    rw [List.nil_append] at ht
                    subst ht
                    refine ⟨h4, fun i => ?_⟩
                    rw [List.getD_eq_getElem?_getD]
                    cases hi : l[i]? with
                    | none => show 0 < 256; decide
                    | some y => exact hb y (List.mem_iff_getElem?.2 ⟨i, hi⟩)
                  clear hd hz2
                  go_upto_region 19 with fail
                  refine MixH.start (fun A => SxAt A R s (.slice a N c) X ∧ Below w.heap.size w A) (by kernel_rfl) ?_
                  obtain ⟨wC, hwA⟩ : ∃ wC, wC = wA.drew := ⟨_, rfl⟩
                  have bdr : Below wA.heap.size wA wC := by rw [hwA]; exact (Below.refl _ _).drew
                  have hS : SxAt wC R s (.slice a N c) X ∧ Below w.heap.size w wC := ⟨H1.out.1.below bdr, bthen H1.out.2 bdr⟩
                  rw [← hwA]
                  clear hwA bdr
                  refine MixH.takes [true, true, true, false, true, true, true] 10 (by kernel_rfl) (by kernel_rfl) (by decide) (by kernel_rfl) hS (fun K hK => ?_)
                  simp only [Mix.pick]
                  repeat (go_big_quiet_step (fail))
                  refine wpQuiet_nil (hK _ ?_)
                  clear hK K
                  refine MixH.take 9 3 _ (.string s) rfl (by kernel_rfl) (by kernel_rfl) (by kernel_rfl) (by kernel_rfl) (yields_str (.tmp 118) rfl ⟨R, 0, none⟩ (.string s) rfl rfl (fun A hA => hA.1.c0)) hS (fun a' ha => ?_)
                  simp only [Act.put, List.setIfInBounds_toArray, List.set_cons_succ, List.set_cons_zero] at ha
                  subst ha
                  refine MixH.take 8 7 _ (.int .i64 (P : Nat)) rfl (by kernel_rfl) (by kernel_rfl) (by kernel_rfl) (by kernel_rfl) (yields_int (.tmp 122) rfl ⟨R, 3, none⟩ (.int .i64 (P : Nat)) rfl rfl (fun A hA => hA.1.c3.trans HP3.out)) hS (fun a' ha => ?_)
                  simp only [Act.put, List.setIfInBounds_toArray, List.set_cons_succ, List.set_cons_zero] at ha
                  subst ha
                  refine MixH.one [false, false, false, false, false, false, false, false, true] 7 8 _ rfl rfl (by kernel_rfl) (by kernel_rfl) (fun K hK => ?_)
                  simp only [Mix.pick]
                  go_wp2_with fail
                  refine Calls.mono (dotted_any s P wC HS.out HPS.out) ?_
                  rintro e1 w1 ⟨hr, hb⟩
                  unfold DtR at hr
                  rw [HDT.out] at hr
                  obtain ⟨vv, rfl, ho⟩ := hr
                  rw [HL4.out.1] at ho
                  obtain ⟨g, cap, rfl, hg1, hg2⟩ : ∃ g cap, vv = .slice (some ⟨g, 0, none⟩) 4 cap ∧ wC.heap.size ≤ g ∧ g < w1.heap.size := by
                    rcases ho.2 with ⟨h1, h2⟩ | ⟨g, cap, cur, hv, hg, r⟩
                    · omega
                    · exact ⟨g, cap, hv, hg, (ho.lt g (by rw [hv]; rfl)).2⟩
                  have HGW : Hid (wC.heap.size ≤ g ∧ g < w1.heap.size) := ⟨hg1, hg2⟩
                  have HGC : Hid (∀ i, i < 4 → w1.cell? ⟨g, i, none⟩ = some (.int .u8 (l.getD i 0 : Nat))) := by
                    intro i hi
                    rw [ho.cellAt i (by simpa using hi), List.getElem?_map, List.getElem?_eq_getElem (by rw [HL4.out.1]; exact hi), List.getD_eq_getElem?_getD, List.getElem?_eq_getElem (by rw [HL4.out.1]; exact hi)]
                    rfl
                  have HOC2 : Hid (wC.ownsRow (R + 1) 3 1 (.slice a N c) N (X.g.map fun n => Value.int .i64 (n : Nat))) := by have := hS.1.own; rw [← HN.out] at this; exact this
                  clear ho hg1 hg2
                  have hS : SxAt w1 R s (.slice a N c) X ∧ Below w.heap.size w w1 := ⟨hS.1.below hb, hS.2.trans (hb.mono hS.2.size)⟩
                  clear hb
                  go_wp2_with fail
                  refine ⟨rfl, hK _ _ hS ?_⟩
                  clear hK K
                  refine MixH.takes [false, false, false, false, false, false, false, false, false, true, true, true, true, true, true, true] 0 (by kernel_rfl) (by kernel_rfl) (by decide) (by kernel_rfl) hS (fun K hK => ?_)
                  simp only [Mix.pick]
                  repeat (go_big_quiet_step (fail))
                  refine wpQuiet_nil (hK _ ?_)
                  clear hK K
                  refine MixH.done (by kernel_rfl) ?_
                  have HX2 : Hid (SxAt w1 R s (.slice a N c) X ∧ Below w.heap.size w w1) := hS
                  have HO1 : Hid (w1.ownsRow (R + 1) 3 1 (.slice a N c) N (X.g.map fun n => Value.int .i64 (n : Nat))) := by have := HX2.out.1.own; rw [← HN.out] at this; exact this
                  have HR1 : Hid (w1.heap[R]? = some (.cells (sxC s (.slice a N c) X) 147 (0, 0)) ∧ (∀ i, i < 4 → w1.cell? ⟨g, i, none⟩ = some (.int .u8 (l.getD i 0 : Nat))) ∧ Below R w w1) := ⟨HX2.out.1.blk, HGC.out, HX2.out.2.mono HR0.out⟩
                  have HGO : Hid (∀ x, (Value.slice a N c).ownBlock = some x → x < g) := fun x hx => by have h1 := (HOC2.out.lt x hx).2; have h2 := HGW.out; omega
                  clear hS
                  obtain ⟨b0, h0⟩ : ∃ b, l.getD 0 0 = b := ⟨_, rfl⟩
                  obtain ⟨b1, h1⟩ : ∃ b, l.getD 1 0 = b := ⟨_, rfl⟩
                  obtain ⟨b2, h2⟩ : ∃ b, l.getD 2 0 = b := ⟨_, rfl⟩
                  obtain ⟨b3, h3⟩ : ∃ b, l.getD 3 0 = b := ⟨_, rfl⟩
                  obtain ⟨u, hu⟩ : ∃ u, 256 * b0 + b1 = u := ⟨_, rfl⟩
                  obtain ⟨v, hv⟩ : ∃ v, 256 * b2 + b3 = v := ⟨_, rfl⟩
                  have HB4 : Hid (l.getD 0 0 = b0 ∧ l.getD 1 0 = b1 ∧ l.getD 2 0 = b2 ∧ l.getD 3 0 = b3 ∧ b0 < 256 ∧ b1 < 256 ∧ b2 < 256 ∧ b3 < 256) := ⟨h0, h1, h2, h3, by rw [← h0]; exact HL4.out.2 0, by rw [← h1]; exact HL4.out.2 1, by rw [← h2]; exact HL4.out.2 2, by rw [← h3]; exact HL4.out.2 3⟩
                  have HZ4 : Hid (grp s X = ({ X with g := X.g ++ [u, v], p := s.size }, true)) := by show _ = _; rw [HZ3.out, h0, h1, h2, h3, hu, hv]
                  have y0 : IntKind.i64.wrap (b0 : Int) = (b0 : Int) := i64_s _ (by omega) (by have := HB4.out; omega)
                  have y1 : IntKind.i64.wrap (b1 : Int) = (b1 : Int) := i64_s _ (by omega) (by have := HB4.out; omega)
                  have y2 : IntKind.i64.wrap (b2 : Int) = (b2 : Int) := i64_s _ (by omega) (by have := HB4.out; omega)
                  have y3 : IntKind.i64.wrap (b3 : Int) = (b3 : Int) := i64_s _ (by omega) (by have := HB4.out; omega)
                  have y4 : IntKind.i64.wrap (256 * (b0 : Int)) = 256 * (b0 : Int) := i64_s _ (by omega) (by have := HB4.out; omega)
                  have y5 : IntKind.i64.wrap (256 * (b2 : Int)) = 256 * (b2 : Int) := i64_s _ (by omega) (by have := HB4.out; omega)
                  have y6 : IntKind.i64.wrap (256 * (b0 : Int) + (b1 : Int)) = (u : Int) := by rw [i64_s _ (by omega) (by have := HB4.out; omega)]; omega
                  have y7 : IntKind.i64.wrap (256 * (b2 : Int) + (b3 : Int)) = (v : Int) := by rw [i64_s _ (by omega) (by have := HB4.out; omega)]; omega
                  clear h0 h1 h2 h3 hu hv c0 c1 c3
                  go_upto_region 23 with fail
                  refine MixJ.start (fun A => A.heap[R]? = some (.cells (sxC s (.slice a N c) X) 147 (0, 0)) ∧ (∀ i, i < 4 → A.cell? ⟨g, i, none⟩ = some (.int .u8 (l.getD i 0 : Nat))) ∧ Below R w A) 29 (by kernel_rfl) ?_
                  obtain ⟨wD, hwA⟩ : ∃ W_, W_ = w1.drew := ⟨_, rfl⟩
                  have bdr : Below w1.heap.size w1 wD := by rw [hwA]; exact (Below.refl _ _).drew
                  have hS : wD.heap[R]? = some (.cells (sxC s (.slice a N c) X) 147 (0, 0)) ∧ (∀ i, i < 4 → wD.cell? ⟨g, i, none⟩ = some (.int .u8 (l.getD i 0 : Nat))) ∧ Below R w wD := ⟨((Ch.ofBelow (S := fun _ => False) bdr).block R (Array.getElem?_eq_some_iff.1 HR1.out.1).1 (fun h => h)).trans HR1.out.1, fun i hi => (bdr.cell HGW.out.2).trans (HR1.out.2.1 i hi), HR1.out.2.2.trans (bdr.mono (Nat.le_of_lt (Array.getElem?_eq_some_iff.1 HR1.out.1).1))⟩
                  have HOD : Hid (wD.ownsRow (R + 1) 3 1 (.slice a N c) N (X.g.map fun n => Value.int .i64 (n : Nat))) := (Ch.ofBelow (S := fun _ => False) bdr).owns HO1.out (fun _ _ h => h)
                  have HDZ : Hid (g < wD.heap.size) := by have := bdr.size; have := HGW.out; show g < wD.heap.size; omega
                  rw [← hwA]
                  clear hwA bdr
                  refine MixJ.takes [true, true, true, true, false, true, true, false, false, false, true, true, false, false, false, true, true, false, false, false, true, true] 18 (by kernel_rfl) (by kernel_rfl) (by decide) (by kernel_rfl) (by kernel_rfl) hS (fun K hK => ?_)
                  simp only [Mix.pick]
                  repeat (go_big_quiet_step (fail))
                  refine wpQuiet_nil (hK _ ?_)
                  clear hK K
                  refine MixJ.take 17 4 _ (.slice a N c) rfl (by kernel_rfl) (by kernel_rfl) (by kernel_rfl) (by kernel_rfl) (by kernel_rfl) (by kernel_rfl) (yields_lst (.tmp 137) rfl ⟨R, 1, none⟩ (.slice a N c) rfl rfl (fun A hA => sx_c1 hA.1)) hS (fun a' ha => ?_)
                  simp only [Act.put, List.setIfInBounds_toArray, List.set_cons_succ, List.set_cons_zero] at ha
                  subst ha
                  refine MixJ.take 16 7 _ (.int .u8 (b0 : Nat)) rfl (by kernel_rfl) (by kernel_rfl) (by kernel_rfl) (by kernel_rfl) (by kernel_rfl) (by kernel_rfl) (yields_by4 (.tmp 140) rfl ⟨g, 0, none⟩ (.int .u8 (b0 : Nat)) rfl rfl (fun A hA => by rw [hA.2.1 0 (by decide), HB4.out.1])) hS (fun a' ha => ?_)
                  simp only [Act.put, List.setIfInBounds_toArray, List.set_cons_succ, List.set_cons_zero] at ha
                  subst ha
                  refine MixJ.takes [false, false, false, false, false, false, false, false, true, true] 14 (by kernel_rfl) (by kernel_rfl) (by decide) (by kernel_rfl) (by kernel_rfl) hS (fun K hK => ?_)
                  simp only [Mix.pick]
                  repeat (go_big_quiet_step (fail))
                  refine wpQuiet_nil (hK _ ?_)
                  clear hK K
                  refine MixJ.take 13 12 _ (.int .u8 (b1 : Nat)) rfl (by kernel_rfl) (by kernel_rfl) (by kernel_rfl) (by kernel_rfl) (by kernel_rfl) (by kernel_rfl) (yields_by4 (.tmp 145) rfl ⟨g, 1, none⟩ (.int .u8 (b1 : Nat)) rfl rfl (fun A hA => by rw [hA.2.1 1 (by decide), HB4.out.2.1])) hS (fun a' ha => ?_)
                  simp only [Act.put, List.setIfInBounds_toArray, List.set_cons_succ, List.set_cons_zero] at ha
                  subst ha
                  refine MixJ.takes [false, false, false, false, false, false, false, false, false, false, false, false, false, true, true] 11 (by kernel_rfl) (by kernel_rfl) (by decide) (by kernel_rfl) (by kernel_rfl) hS (fun K hK => ?_)
                  simp only [Mix.pick]
                  repeat (go_big_quiet_step (fail))
                  refine wpQuiet_nil (hK _ ?_)
                  clear hK K
                  refine MixJ.take 10 17 _ (.int .u8 (b2 : Nat)) rfl (by kernel_rfl) (by kernel_rfl) (by kernel_rfl) (by kernel_rfl) (by kernel_rfl) (by kernel_rfl) (yields_by4 (.tmp 150) rfl ⟨g, 2, none⟩ (.int .u8 (b2 : Nat)) rfl rfl (fun A hA => by rw [hA.2.1 2 (by decide), HB4.out.2.2.1])) hS (fun a' ha => ?_)
                  simp only [Act.put, List.setIfInBounds_toArray, List.set_cons_succ, List.set_cons_zero] at ha
                  subst ha
                  refine MixJ.takes [false, false, false, false, false, false, false, false, false, false, false, false, false, false, false, false, false, false, true, true] 8 (by kernel_rfl) (by kernel_rfl) (by decide) (by kernel_rfl) (by kernel_rfl) hS (fun K hK => ?_)
                  simp only [Mix.pick]
                  repeat (go_big_quiet_step (fail))
                  refine wpQuiet_nil (hK _ ?_)
                  clear hK K
                  refine MixJ.take 7 22 _ (.int .u8 (b3 : Nat)) rfl (by kernel_rfl) (by kernel_rfl) (by kernel_rfl) (by kernel_rfl) (by kernel_rfl) (by kernel_rfl) (yields_by4 (.tmp 155) rfl ⟨g, 3, none⟩ (.int .u8 (b3 : Nat)) rfl rfl (fun A hA => by rw [hA.2.1 3 (by decide), HB4.out.2.2.2.1])) hS (fun a' ha => ?_)
                  simp only [Act.put, List.setIfInBounds_toArray, List.set_cons_succ, List.set_cons_zero] at ha
                  subst ha
                  refine MixJ.takes [false, false, false, false, false, false, false, false, false, false, false, false, false, false, false, false, false, false, false, false, false, false, false, true, true] 5 (by kernel_rfl) (by kernel_rfl) (by decide) (by kernel_rfl) (by kernel_rfl) hS (fun K hK => ?_)
                  simp only [Mix.pick]
                  repeat (go_big_quiet_step (fail))
                  refine wpQuiet_nil (hK _ ?_)
                  clear hK K
                  refine MixJ.many [25] 4 (by kernel_rfl) (by decide) (by kernel_rfl) ?_
                  intro i_ hi_
                  simp only [List.mem_cons, List.not_mem_nil, or_false] at hi_
                  subst hi_
                  refine ⟨_, rfl, fun K hK => ?_⟩
                  go_wp2_with fail
                  obtain ⟨wB, hwB⟩ : ∃ W_, W_ = wD.alloc (.cells #[.int .i64 (u : Nat), .int .i64 (v : Nat)] 3) := ⟨_, rfl⟩
                  obtain ⟨gB, hgB⟩ : ∃ g_, wD.heap.size = g_ := ⟨_, rfl⟩
                  have b3 : Below wD.heap.size wD wB := by rw [hwB]; exact (Below.refl _ _).alloc (Nat.le_refl _) _
                  have HCB : Hid (∀ j x, [Value.int .i64 (u : Nat), Value.int .i64 (v : Nat)][j]? = some x → wB.cell? ((⟨gB, 0, none⟩ : Addr).add j) = some x) := by rw [hwB, ← hgB]; exact cellsTwo wD _ _ _
                  have HGB : Hid ((R + 1 ≤ gB ∧ gB < wB.heap.size) ∧ g < wB.heap.size) := ⟨⟨by rw [← hgB]; exact (Array.getElem?_eq_some_iff.1 hS.1).1, by rw [hwB, World.size_alloc]; omega⟩, by have := HDZ.out; rw [hwB, World.size_alloc]; omega⟩
                  have HOB : Hid (wB.ownsRow (R + 1) 3 1 (.slice a N c) N (X.g.map fun n => Value.int .i64 (n : Nat))) := (Ch.ofBelow (S := fun _ => False) b3).owns HOD.out (fun _ _ h => h)
                  have hS : wB.heap[R]? = some (.cells (sxC s (.slice a N c) X) 147 (0, 0)) ∧ (∀ i, i < 4 → wB.cell? ⟨g, i, none⟩ = some (.int .u8 (l.getD i 0 : Nat))) ∧ Below R w wB := ⟨((Ch.ofBelow (S := fun _ => False) b3).block R (Array.getElem?_eq_some_iff.1 hS.1).1 (fun h => h)).trans hS.1, fun i hi => (b3.cell HDZ.out).trans (hS.2.1 i hi), hS.2.2.trans (b3.mono (Nat.le_of_lt (Array.getElem?_eq_some_iff.1 hS.1).1))⟩
                  rw [← hwB]
                  (try rw [hgB])
                  clear hwB b3 hgB
                  refine ⟨rfl, hK _ _ (fun _ => hS) ?_⟩
                  clear hK K
                  refine MixJ.many [26] 3 (by kernel_rfl) (by decide) (by kernel_rfl) ?_
                  intro i_ hi_
                  simp only [List.mem_cons, List.not_mem_nil, or_false] at hi_
                  subst hi_
                  refine ⟨_, rfl, fun K hK => ?_⟩
                  have HRS := hS
                  go_wp2_with (at_builtin; refine wpList_append_own_at _ rfl (.tmp 138) (.tmp 159) 145 rfl (R + 1) 3 i0 (.int .i64 0) 1 8 Tryz.underlying145 HI.out.1 HI.out.2.1 HI.out.2.2.1 HI.out.2.2.2 rfl (by decide) _ _ _ rfl HOB.out ⟨gB, 0, none⟩ 2 2 [.int .i64 (u : Nat), .int .i64 (v : Nat)] rfl rfl HCB.out (by intro x hx; simp at hx; rcases hx with rfl | rfl <;> rfl) (by have := HN8.out; unfold maxLen; omega) (by have := HN8.out; omega) (by have := HGB.out; omega) ?_)
                  intro v2 w2 ho2 hg2 _ _
                  obtain ⟨a2, c2, hv2⟩ := owns_shape ho2
                  subst hv2
                  have k2 : Ch (fun x => (Value.slice a N c).ownBlock = some x) wB w2 := Ch.ofGrown hg2
                  have hne : ∀ x, (Value.slice a N c).ownBlock = some x → R + 1 ≤ x ∧ x < g := fun x hx => ⟨(HOB.out.lt x hx).1, HGO.out x hx⟩
                  have hsz : g < wB.heap.size := HGB.out.2
                  have hRs : R < wB.heap.size := (Array.getElem?_eq_some_iff.1 hS.1).1
                  have hS : w2.heap[R]? = some (.cells (sxC s (.slice a N c) X) 147 (0, 0)) ∧ (∀ i, i < 4 → w2.cell? ⟨g, i, none⟩ = some (.int .u8 (l.getD i 0 : Nat))) ∧ Below R w w2 := ⟨(k2.block R hRs (fun h => by have := hne R h; omega)).trans hS.1, fun i hi => (k2.cell (hS.2.1 i hi) (fun h => by have := hne g h; omega)), hS.2.2.trans (k2.below (fun x hx => by have := hne x hx; omega) (Nat.le_of_lt hRs))⟩
                  have HO2 : Hid (w2.ownsRow (R + 1) 3 1 (.slice a2 (N + 2) c2) (N + 2) ((X.g ++ [u, v]).map fun n => Value.int .i64 (n : Nat))) := by show w2.ownsRow _ _ _ _ _ _; rw [List.map_append]; exact ho2
                  clear ho2 hg2 k2 hne hsz hRs
                  refine ⟨rfl, hK _ _ (fun _ => hS) ?_⟩
                  clear hK K
                  refine MixJ.many [27] 2 (by kernel_rfl) (by decide) (by kernel_rfl) ?_
                  intro i_ hi_
                  simp only [List.mem_cons, List.not_mem_nil, or_false] at hi_
                  subst hi_
                  refine ⟨_, rfl, fun K hK => ?_⟩
                  go_wp2_with fail
                  refine ⟨rfl, hK _ _ (fun _ => hS) ?_⟩
                  clear hK K
                  refine MixJ.takes [false, false, false, false, false, false, false, false, false, false, false, false, false, false, false, false, false, false, false, false, false, false, false, false, false, false, false, false, true] 1 (by kernel_rfl) (by kernel_rfl) (by decide) (by kernel_rfl) (by kernel_rfl) hS (fun K hK => ?_)
                  simp only [Mix.pick]
                  repeat (go_big_quiet_step (fail))
                  refine wpQuiet_nil (hK _ ?_)
                  clear hK K
                  refine MixJ.many [29] 0 (by kernel_rfl) (by decide) (by kernel_rfl) ?_
                  intro i_ hi_
                  simp only [List.mem_cons, List.not_mem_nil, or_false] at hi_
                  subst hi_
                  refine ⟨_, rfl, fun K hK => ?_⟩
                  obtain ⟨N2, hN2⟩ : ∃ N2, N2 = N + 2 := ⟨_, rfl⟩
                  have HN2 : Hid (N2 = N + 2) := hN2
                  rw [← hN2]
                  have HO3 : Hid (w2.ownsRow (R + 1) 3 1 (.slice a2 N2 c2) N2 ((X.g ++ [u, v]).map fun n => Value.int .i64 (n : Nat))) := by show w2.ownsRow _ _ _ _ _ _; rw [hN2]; exact HO2.out
                  have f1 : w2.frozen? ⟨R, 1, none⟩ = false := by simp [World.frozen?, hS.1]
                  have d1 : w2.cell? ⟨R, 1, none⟩ = some (.slice a N c) := by simp [World.cell?, hS.1, sxC]
                  obtain ⟨w3, hw3⟩ : ∃ w3, w3 = w2.setCell ⟨R, 1, none⟩ (.slice a2 N2 c2) := ⟨_, rfl⟩
                  have HW3 : Hid (w2.setCell ⟨R, 1, none⟩ (.slice a2 N2 c2) = w3) := hw3.symm
                  have H3 : Hid (SxAt w3 R s (.slice a2 N2 c2) { X with g := X.g ++ [u, v] } ∧ Below R w w3) := by
                    rw [hw3]
                    refine ⟨⟨?_, ?_⟩, hS.2.2.setCell (Nat.le_refl _) _⟩
                    · rw [heap_setCell_same w2 R 1 _ _ (.slice a2 N2 c2) hS.1]; rfl
                    · refine ((Ch.refl (fun q => q = R) w2).set ⟨R, 1, none⟩ (.slice a2 N2 c2) rfl).owns ?_ (fun g h1 h2 => by have := (HO3.out.lt g h1).1; omega)
                      have := HO3.out
                      rw [HN2.out, HN.out] at this
                      rw [HN2.out, HN.out]
                      show w2.ownsRow _ _ _ _ (X.g ++ [u, v]).length _
                      rw [List.length_append]
                      exact this
                  clear hw3 hN2
                  go_wp2_with fail
                  rw [HW3.out]
                  clear f1 d1
                  refine ⟨rfl, hK _ _ (fun q => absurd rfl q) ?_⟩
                  clear hK K
                  refine MixJ.done (by kernel_rfl) ?_
                  (try clear hS)
                  have f3 := H3.out.1.fz 3
                  have d3 : w3.cell? ⟨R, 3, none⟩ = some (.int .i64 (P : Nat)) := H3.out.1.c3.trans HP3.out
                  have d0 := H3.out.1.c0
                  obtain ⟨w4, hw4⟩ : ∃ w4, w4 = w3.setCell ⟨R, 3, none⟩ (.int .i64 (s.size : Nat)) := ⟨_, rfl⟩
                  have HW4 : Hid (w3.setCell ⟨R, 3, none⟩ (.int .i64 (s.size : Nat)) = w4) := hw4.symm
                  have H4 : Hid (SxAt w4 R s (.slice a2 N2 c2) { X with g := X.g ++ [u, v], p := s.size } ∧ Below R w w4) := by rw [hw4]; exact ⟨H3.out.1.set 3 _ rfl rfl, H3.out.2.setCell (Nat.le_refl _) _⟩
                  clear hw4
                  go_upto_region 25 with fail
                  rw [HW4.out]
                  clear f3 d3 d0
                  go_wp2
                  go_ret
                  exact ⟨by rw [HZ4.out]; rfl, ⟨_, by rw [HZ4.out]; exact H4.out.1⟩, H4.out.2⟩
    · have p1 : decide ((q : Int) < (s.size : Int)) = false := decide_eq_false (by omega)
      have p2 : decide (q < s.size) = false := decide_eq_false hlt
      have w2 : IntKind.i64.wrap ((q : Int) - (P : Int)) = (q : Int) - (P : Int) := i64_s _ (by have := HS.out; have := HPS.out; have := HQB.out; omega) (by have := HS.out; have := HQB.out; omega)
      have HQE : Hid (scP s hxB P = q) := by show _ = _; rw [← HQ.out]; exact scP_stop (by rw [p2]; simp)
      have HTL : Hid (tlB s X q = false) := by show tlB s X q = false; unfold tlB; rw [p2]; rfl
      clear hlt
      have HG0 : Hid (grp s X = grpq s X q) := by show _ = _; unfold grp; rw [HP.out, HQE.out]
      by_cases hqp : q = P
      · have e1 : ((q : Int) == (P : Int)) = true := by simp [hqp]
        have e2 : (q == P) = true := by simp [hqp]
        have HZ : Hid (grp s X = (X.fail (hrE s P).1 (hrE s P).2, true)) := by show _ = _; rw [HG0.out]; unfold grpq; rw [HP.out, e2]; rfl
        clear hqp
        go_upto_region 8 with fail
        refine MixH.start (fun A => SxAt A R s (.slice a N c) X ∧ Below w.heap.size w A) (by kernel_rfl) ?_
        obtain ⟨wA, hwA⟩ : ∃ wA, wA = w.drew := ⟨_, rfl⟩
        have bdr : Below w.heap.size w wA := by rw [hwA]; exact (Below.refl _ _).drew
        have hS : SxAt wA R s (.slice a N c) X ∧ Below w.heap.size w wA := ⟨H0.out.1.below bdr, bthen H0.out.2 bdr⟩
        rw [← hwA]
        clear hwA bdr
        refine MixH.takes [true, true, true, false, true, true, true] 8 (by kernel_rfl) (by kernel_rfl) (by decide) (by kernel_rfl) hS (fun K hK => ?_)
        simp only [Mix.pick]
        repeat (go_big_quiet_step (fail))
        refine wpQuiet_nil (hK _ ?_)
        clear hK K
        refine MixH.take 7 3 _ (.string s) rfl (by kernel_rfl) (by kernel_rfl) (by kernel_rfl) (by kernel_rfl) (yields_str (.tmp 61) rfl ⟨R, 0, none⟩ (.string s) rfl rfl (fun A hA => hA.1.c0)) hS (fun a' ha => ?_)
        simp only [Act.put, List.setIfInBounds_toArray, List.set_cons_succ, List.set_cons_zero] at ha
        subst ha
        refine MixH.take 6 7 _ (.int .i64 (P : Nat)) rfl (by kernel_rfl) (by kernel_rfl) (by kernel_rfl) (by kernel_rfl) (yields_int (.tmp 65) rfl ⟨R, 3, none⟩ (.int .i64 (P : Nat)) rfl rfl (fun A hA => hA.1.c3.trans HP3.out)) hS (fun a' ha => ?_)
        simp only [Act.put, List.setIfInBounds_toArray, List.set_cons_succ, List.set_cons_zero] at ha
        subst ha
        refine MixH.one [false, false, false, false, false, false, false, false, true] 5 8 _ rfl rfl (by kernel_rfl) (by kernel_rfl) (fun K hK => ?_)
        simp only [Mix.pick]
        go_wp2_with fail
        refine Calls.mono (here_any s P wA) ?_
        rintro e1 wz ⟨rfl, rfl⟩
        go_wp2_with fail
        refine ⟨rfl, hK _ _ hS ?_⟩
        clear hK K
        refine MixH.takes [false, false, false, false, false, false, false, false, false, true, true, true, true, true] 0 (by kernel_rfl) (by kernel_rfl) (by decide) (by kernel_rfl) hS (fun K hK => ?_)
        simp only [Mix.pick]
        repeat (go_big_quiet_step (fail))
        refine wpQuiet_nil (hK _ ?_)
        clear hK K
        refine MixH.done (by kernel_rfl) ?_
        have H1 : Hid (SxAt wA R s (.slice a N c) X ∧ Below w.heap.size w wA) := hS
        clear hS c0 c3
        go_wp2_with fail
        refine (fail_any R s (.slice a N c) X (hrE s P).1 (hrE s P).2 wA H1.out.1).mono ?_
        rintro e3 w3 ⟨rfl, k1, k2⟩
        have H2 : Hid (SxAt w3 R s (.slice a N c) (X.fail (hrE s P).1 (hrE s P).2) ∧ Below R w w3) := ⟨k1, (H1.out.2.mono HR0.out).trans (k2.below (fun x hx => by omega) (Nat.le_of_lt H1.out.1.lt))⟩
        clear k1 k2
        go_wp2_with fail
        go_ret
        exact ⟨by rw [HZ.out]; rfl, ⟨_, by rw [HZ.out]; exact H2.out.1⟩, H2.out.2⟩
      · have e1 : ((q : Int) == (P : Int)) = false := by simp; omega
        have e2 : (q == P) = false := by simp [hqp]
        have HZ : Hid (grp s X = if decide (rmN X < N + 1) then (X.fail 44 P, true) else if decide (4 < q - P) then (X.fail 43 P, true) else ({ X with g := X.g ++ [hxN s P (q - P)], p := q }, q == s.size)) := by show _ = _; rw [HG0.out]; unfold grpq; rw [HP.out, e2, HTL.out, ← HN.out]; rfl
        have HQP : Hid (P < q) := by have := HQB.out; show P < q; omega
        have w5 : IntKind.i64.wrap ((N : Int) + 1) = (N : Int) + 1 := i64_s _ (by omega) (by have := HN8.out; omega)
        obtain ⟨m, hm⟩ : ∃ m, rmN X = m := ⟨_, rfl⟩
        have HM : Hid (rmN X = m) := hm
        clear hqp hm
        go_upto_region 15 with fail
        refine MixH.start (fun A => SxAt A R s (.slice a N c) X ∧ Below w.heap.size w A) (by kernel_rfl) ?_
        obtain ⟨wA, hwA⟩ : ∃ wA, wA = w.drew := ⟨_, rfl⟩
        have bdr : Below w.heap.size w wA := by rw [hwA]; exact (Below.refl _ _).drew
        have hS : SxAt wA R s (.slice a N c) X ∧ Below w.heap.size w wA := ⟨H0.out.1.below bdr, bthen H0.out.2 bdr⟩
        rw [← hwA]
        clear hwA bdr
        refine MixH.takes [true, true, true, false, false, true, false, true] 5 (by kernel_rfl) (by kernel_rfl) (by decide) (by kernel_rfl) hS (fun K hK => ?_)
        simp only [Mix.pick]
        repeat (go_big_quiet_step (fail))
        refine wpQuiet_nil (hK _ ?_)
        clear hK K
        refine MixH.take 4 3 _ (.slice a N c) rfl (by kernel_rfl) (by kernel_rfl) (by kernel_rfl) (by kernel_rfl) (yields_lst (.tmp 100) rfl ⟨R, 1, none⟩ (.slice a N c) rfl rfl (fun A hA => hA.1.c1)) hS (fun a' ha => ?_)
        simp only [Act.put, List.setIfInBounds_toArray, List.set_cons_succ, List.set_cons_zero] at ha
        subst ha
        refine MixH.takes [false, false, false, false, true, false, true] 2 (by kernel_rfl) (by kernel_rfl) (by decide) (by kernel_rfl) hS (fun K hK => ?_)
        simp only [Mix.pick]
        repeat (go_big_quiet_step (fail))
        refine wpQuiet_nil (hK _ ?_)
        clear hK K
        refine MixH.one [false, false, false, false, false, false, false, false, true] 1 8 _ rfl rfl (by kernel_rfl) (by kernel_rfl) (fun K hK => ?_)
        simp only [Mix.pick]
        go_wp2_with fail
        refine Calls.mono (room_any R s (.slice a N c) X wA hS.1) ?_
        rintro e3 wz ⟨rfl, rfl⟩
        rw [HM.out]
        go_wp2_with fail
        refine ⟨rfl, hK _ _ hS ?_⟩
        clear hK K
        refine MixH.takes [false, false, false, false, false, false, false, false, false, true] 0 (by kernel_rfl) (by kernel_rfl) (by decide) (by kernel_rfl) hS (fun K hK => ?_)
        simp only [Mix.pick]
        repeat (go_big_quiet_step (fail))
        refine wpQuiet_nil (hK _ ?_)
        clear hK K
        refine MixH.done (by kernel_rfl) ?_
        have H1 : Hid (SxAt wA R s (.slice a N c) X ∧ Below w.heap.size w wA) := hS
        clear hS c0 c3
        have c0 := H1.out.1.c0
        have c1 := H1.out.1.c1
        have c3 : wA.cell? ⟨R, 3, none⟩ = some (.int .i64 (P : Nat)) := H1.out.1.c3.trans HP3.out
        by_cases hm : m < N + 1
        · have m1 : decide ((m : Int) < (N : Int) + 1) = true := decide_eq_true (by omega)
          have m2 : decide ((m : Int) ≤ (N : Int)) = true := decide_eq_true (by omega)
          have m3 : decide (m ≤ N) = true := decide_eq_true (by omega)
          have m4 : decide (m < N + 1) = true := decide_eq_true (by omega)
          have m5 : (m : Int) < (N : Int) + 1 := by omega
          have HZ2 : Hid (grp s X = (X.fail 44 P, true)) := by show _ = _; rw [HZ.out, HM.out, decide_eq_true hm]; rfl
          clear hm
          go_wp2_with fail
          refine (fail_any R s (.slice a N c) X 44 P wA H1.out.1).mono ?_
          rintro e3 w3 ⟨rfl, k1, k2⟩
          have H2 : Hid (SxAt w3 R s (.slice a N c) (X.fail 44 P) ∧ Below R w w3) := ⟨k1, (H1.out.2.mono HR0.out).trans (k2.below (fun x hx => by omega) (Nat.le_of_lt H1.out.1.lt))⟩
          clear k1 k2
          go_wp2_with fail
          go_ret
          exact ⟨by rw [HZ2.out]; rfl, ⟨_, by rw [HZ2.out]; exact H2.out.1⟩, H2.out.2⟩
        · have m1 : decide ((m : Int) < (N : Int) + 1) = false := decide_eq_false (by omega)
          have m2 : decide ((m : Int) ≤ (N : Int)) = false := decide_eq_false (by omega)
          have m3 : decide (m ≤ N) = false := decide_eq_false (by omega)
          have m4 : decide (m < N + 1) = false := decide_eq_false (by omega)
          have m5 : ¬ (m : Int) < (N : Int) + 1 := by omega
          have HZ2 : Hid (grp s X = if decide (4 < q - P) then (X.fail 43 P, true) else ({ X with g := X.g ++ [hxN s P (q - P)], p := q }, q == s.size)) := by show _ = _; rw [HZ.out, HM.out, decide_eq_false hm]; rfl
          clear hm
          by_cases h4 : 4 < q - P
          · have d4 : decide ((4 : Int) < (q : Int) - (P : Int)) = true := decide_eq_true (by omega)
            have HZ3 : Hid (grp s X = (X.fail 43 P, true)) := by show _ = _; rw [HZ2.out, decide_eq_true h4]; rfl
            clear h4
            go_wp2_with fail
            refine (fail_any R s (.slice a N c) X 43 P wA H1.out.1).mono ?_
            rintro e3 w3 ⟨rfl, k1, k2⟩
            have H2 : Hid (SxAt w3 R s (.slice a N c) (X.fail 43 P) ∧ Below R w w3) := ⟨k1, (H1.out.2.mono HR0.out).trans (k2.below (fun x hx => by omega) (Nat.le_of_lt H1.out.1.lt))⟩
            clear k1 k2
            go_wp2_with fail
            go_ret
            exact ⟨by rw [HZ3.out]; rfl, ⟨_, by rw [HZ3.out]; exact H2.out.1⟩, H2.out.2⟩
          · have d4 : decide ((4 : Int) < (q : Int) - (P : Int)) = false := decide_eq_false (by have := HQB.out; omega)
            have HZ3 : Hid (grp s X = ({ X with g := X.g ++ [n], p := q }, q == s.size)) := by
              show _ = _
              rw [HZ2.out, decide_eq_false h4, HNN.out, show min (q - P) 4 = q - P by omega]; rfl
            clear h4
            have HOA : Hid (wA.ownsRow (R + 1) 3 1 (.slice a N c) N (X.g.map fun n => Value.int .i64 (n : Nat))) := by have := H1.out.1.own; rw [← HN.out] at this; exact this
            go_wp2_with (at_builtin; refine wpList_append_own_at _ rfl (.tmp 188) (.tmp 190) 145 rfl (R + 1) 3 i0 (.int .i64 0) 1 8 Tryz.underlying145 HI.out.1 HI.out.2.1 HI.out.2.2.1 HI.out.2.2.2 rfl (by decide) _ _ _ rfl (HOA.out.alloc _) ⟨wA.heap.size, 0, none⟩ 1 1 [.int .i64 (n : Nat)] rfl rfl (cellsOne _ _ _) (by intro u hu; simp at hu; subst hu; rfl) (by have := HN8.out; unfold maxLen; omega) (by have := HN8.out; omega) (by have := H1.out.1.lt; simp; omega) ?_)
            intro v2 w2 ho2 hg2 _ _
            obtain ⟨N1, hN1⟩ : ∃ N1, N1 = N + 1 := ⟨_, rfl⟩
            have HN1 : Hid (N1 = N + 1) := hN1
            rw [← hN1] at ho2
            obtain ⟨a2, c2, hv2⟩ := owns_shape ho2
            subst hv2
            clear hN1
            have k2 : Ch (fun g => (Value.slice a N c).ownBlock = some g) (wA.alloc (.cells #[.int .i64 (n : Nat)] 3)) w2 := Ch.ofGrown hg2
            have hne : ∀ g, (Value.slice a N c).ownBlock = some g → R + 1 ≤ g := fun g hg => (HOA.out.lt g hg).1
            have kb : w2.heap[R]? = some (.cells (sxC s (.slice a N c) X) 147 (0, 0)) := by
              have h1 := H1.out.1.lt
              rw [k2.block R (by simp; omega) (fun h => by have := hne R h; omega), Below.heap_alloc wA _ R h1]
              exact H1.out.1.blk
            have HK : Hid (w2.heap[R]? = some (.cells (sxC s (.slice a N c) X) 147 (0, 0))) := kb
            have HO2 : Hid (w2.ownsRow (R + 1) 3 1 (.slice a2 N1 c2) N1 ((X.g ++ [n]).map fun n => Value.int .i64 (n : Nat))) := by show w2.ownsRow _ _ _ _ _ _; rw [List.map_append]; exact ho2
            have HB2 : Hid (Below R w w2) := (H1.out.2.mono HR0.out).trans ((((Below.refl wA.heap.size wA).alloc (Nat.le_refl _) _).mono (Nat.le_of_lt H1.out.1.lt)).trans (k2.below (fun x hx => by have := hne x hx; omega) (by have := H1.out.1.lt; simp; omega)))
            have f1 : w2.frozen? ⟨R, 1, none⟩ = false := by simp [World.frozen?, kb]
            have d1 : w2.cell? ⟨R, 1, none⟩ = some (.slice a N c) := by simp [World.cell?, kb, sxC]
            have H2 : Hid (SxAt (w2.setCell ⟨R, 1, none⟩ (.slice a2 N1 c2)) R s (.slice a2 N1 c2) { X with g := X.g ++ [n] }) := by
              refine ⟨?_, ?_⟩
              · rw [heap_setCell_same w2 R 1 _ _ (.slice a2 N1 c2) kb]; rfl
              · refine ((Ch.refl (fun q => q = R) w2).set ⟨R, 1, none⟩ (.slice a2 N1 c2) rfl).owns ?_ (fun g h1 h2 => by have := (HO2.out.lt g h1).1; omega)
                have := HO2.out
                rw [HN1.out, HN.out] at this
                rw [HN1.out, HN.out]
                show w2.ownsRow _ _ _ _ (X.g ++ [n]).length _
                rw [List.length_append]
                exact this
            obtain ⟨w3, hw3⟩ : ∃ w3, w3 = w2.setCell ⟨R, 1, none⟩ (.slice a2 N1 c2) := ⟨_, rfl⟩
            have HW3 : Hid (w2.setCell ⟨R, 1, none⟩ (.slice a2 N1 c2) = w3) := hw3.symm
            have H3 : Hid (SxAt w3 R s (.slice a2 N1 c2) { X with g := X.g ++ [n] } ∧ Below R w w3) := by rw [hw3]; exact ⟨H2.out, HB2.out.setCell (Nat.le_refl _) _⟩
            have f3 := H3.out.1.fz 3
            have d3 : w3.cell? ⟨R, 3, none⟩ = some (.int .i64 (P : Nat)) := H3.out.1.c3.trans HP3.out
            obtain ⟨w4, hw4⟩ : ∃ w4, w4 = w3.setCell ⟨R, 3, none⟩ (.int .i64 (q : Nat)) := ⟨_, rfl⟩
            have HW4 : Hid (w3.setCell ⟨R, 3, none⟩ (.int .i64 (q : Nat)) = w4) := hw4.symm
            have H4 : Hid (SxAt w4 R s (.slice a2 N1 c2) { X with g := X.g ++ [n], p := q } ∧ Below R w w4) := by rw [hw4]; exact ⟨H3.out.1.set 3 _ rfl rfl, H3.out.2.setCell (Nat.le_refl _) _⟩
            have d0 := H4.out.1.c0
            clear ho2 hg2 k2 hne kb H2 hw3 hw4 c0 c1 c3
            go_upto_region 30 with fail
            rw [HW3.out]
            go_upto_region 31 with fail
            rw [HW4.out]
            go_wp2_with fail
            go_ret
            exact ⟨by rw [HZ3.out]; rw [← Bool.eq_iff_iff.2 (show ((q : Int) == (s.size : Int)) = true ↔ (q == s.size) = true by simp; omega)]; rfl, ⟨_, by rw [HZ3.out]; exact H4.out.1⟩, H4.out.2⟩
end Go.Proofs.YteldiggaooeeeaaGreatDoor
