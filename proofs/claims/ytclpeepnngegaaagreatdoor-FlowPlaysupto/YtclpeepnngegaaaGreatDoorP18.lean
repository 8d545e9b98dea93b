/-
  R4i: lemmas of the proof of FlowPlays, and walks through the functions that it calls.
-/
import Derived.Test.YtclpeepnngegaaaGreatDoorP00
import Derived.Test.YtclpeepnngegaaaGreatDoorP17
namespace Go.Proofs.YtclpeepnngegaaaGreatDoor
open Go.RowKit Go.Maps
def hxB (c : Nat) : Bool := decide (0 ≤ wth c)
def hxN (s : ByteArray) (p : Nat) : Nat → Nat
 | 0 => 0
 | k + 1 => 16 * hxN s p k + (wth (sB s (p + k))).toNat
theorem wth_le (c : Nat) : wth c ≤ 15 := by
 unfold wth dgB
 split
 · rename_i h; simp at h; omega
 · split
   · rename_i h; simp at h; omega
   · split
     · rename_i h; simp at h; omega
     · omega
theorem hxN_lt (s : ByteArray) (p : Nat) : ∀ k, hxN s p k < 16 ^ k
 | 0 => by simp [hxN]
 | k + 1 => by
  have h1 := hxN_lt s p k
  have h2 := wth_le (sB s (p + k))
  unfold hxN
  rw [Nat.pow_succ]
  omega
theorem hxN_small {s : ByteArray} {p k : Nat} (hk : k ≤ 4) : hxN s p k < 65536 := by
 have h1 := hxN_lt s p k
 have h2 : 16 ^ k ≤ 16 ^ 4 := Nat.pow_le_pow_right (by omega) hk
 omega
def tlB (s : ByteArray) (X : SX) (q : Nat) : Bool := decide (q < s.size) && sB s q == 46 && decide (0 < X.p)
def grpq (s : ByteArray) (X : SX) (q : Nat) : SX × Bool :=
 if q == X.p then (X.fail (hrE s X.p).1 (hrE s X.p).2, true) else
 if decide (rmN X < X.g.length + (if tlB s X q then 2 else 1)) then (X.fail 44 X.p, true) else
 if tlB s X q then (match dtd s 4 X.p [] with
  | .inr e => (X.fail e.1 e.2, true)
  | .inl l => ({ X with g := X.g ++ [256 * l.getD 0 0 + l.getD 1 0, 256 * l.getD 2 0 + l.getD 3 0], p := s.size }, true)) else
 if decide (4 < q - X.p) then (X.fail 43 X.p, true) else
 ({ X with g := X.g ++ [hxN s X.p (q - X.p)], p := q }, q == s.size)
def grp (s : ByteArray) (X : SX) : SX × Bool := grpq s X (scP s hxB X.p)
theorem rmN_le (X : SX) : rmN X ≤ 8 := by unfold rmN; split <;> omega
set_option maxHeartbeats 1600000 in
set_option maxRecDepth 100000 in
theorem group_plain (R : Nat) (s : ByteArray) (lv : Value) (X : SX) (w : World) (h : SxAt w R s lv X) (hp : X.p ≤ s.size) (hs : s.size ≤ 1000) (hl : X.g.length ≤ 8) (hnd : ∀ i, sB s i ≠ 46) : Calls Tryz.prog 101 #[.pointer (some ⟨R, 0, none⟩)] w fun r w' => r = .returned (.bool (grp s X).2) ∧ (∃ lv', SxAt w' R s lv' (grp s X).1) ∧ Below R w w' := by
 obtain ⟨N, hN⟩ : ∃ N, N = X.g.length := ⟨_, rfl⟩
 obtain ⟨a, c, hlv⟩ := owns_shape h.own
 rw [← hN] at hlv hl
 subst hlv
 have HN : Hid (N = X.g.length) := hN
 have HN8 : Hid (N ≤ 8) := hl
 obtain ⟨P, hP⟩ : ∃ P, X.p = P := ⟨_, rfl⟩
 have HP : Hid (X.p = P) := hP
 have HP3 : Hid (some (Value.int .i64 ((X.p : Nat) : Int)) = some (Value.int .i64 ((P : Nat) : Int))) := by show _ = _; rw [hP]
 have HPS : Hid (P ≤ s.size) := by show P ≤ s.size; rw [← hP]; exact hp
 have HS : Hid (s.size ≤ 1000) := hs
 have HND : Hid (∀ i, sB s i ≠ 46) := hnd
 have HR0 : Hid (R ≤ w.heap.size) := Nat.le_of_lt h.lt
 have H0 : Hid (SxAt w R s (.slice a N c) X ∧ Below w.heap.size w w) := ⟨h, Below.refl _ _⟩
 obtain ⟨i0, hi, hz0, hz1, hz2⟩ := info_parts Tryz.infoInt
 have HI : Hid (Tryz.prog.info? 3 = some i0 ∧ i0.zero = some (.int .i64 0) ∧ i0.size = 1 ∧ i0.bytes = 8) := ⟨hi, hz0, hz1, hz2⟩
 have HTL : Hid (∀ q, tlB s X q = false) := fun q => by unfold tlB; have := hnd q; simp [this]
 have c0 := h.c0
 have c3 : w.cell? ⟨R, 3, none⟩ = some (.int .i64 (P : Nat)) := h.c3.trans HP3.out
 clear hi hz0 hz1 hz2 hN hl hP hp hs hnd h
 go_enter Tryz.func101, Tryz.ntmps101
 go_wp2
 go_loopw [3, 4] (fun qv nv wr => ∃ q n : Nat, P ≤ q ∧ q ≤ s.size ∧ qv = .int .i64 (q : Nat) ∧ nv = .int .i64 (n : Nat) ∧ Hid (scP s hxB q = scP s hxB P) ∧ Hid (n = hxN s P (min (q - P) 4)) ∧ w = wr) (fun qv _ _ => s.size - (intOf qv).toNat)
 case atStart => exact ⟨P, 0, Nat.le_refl _, HPS.out, rfl, rfl, rfl, by show _ = _; rw [Nat.sub_self, Nat.zero_min]; rfl, rfl⟩
 case round =>
  obtain ⟨q, n, hq1, hq2, rfl, rfl, HQ, HNN, rfl⟩ := hrel
  have HQB : Hid (P ≤ q ∧ q ≤ s.size) := ⟨hq1, hq2⟩
  have HN6 : Hid (n < 65536) := by show n < 65536; rw [HNN.out]; exact hxN_small (Nat.min_le_right _ _)
  clear hq1 hq2
  by_cases hlt : q < s.size
  · have p1 : decide ((q : Int) < (s.size : Int)) = true := decide_eq_true (by omega)
    have p2 : decide (q < s.size) = true := decide_eq_true hlt
    have w1 : IntKind.i64.wrap ((q : Int) + 1) = (q : Int) + 1 := i64_s _ (by omega) (by have := HS.out; omega)
    have w2 : IntKind.i64.wrap ((q : Int) - (P : Int)) = (q : Int) - (P : Int) := i64_s _ (by have := HS.out; have := HPS.out; omega) (by have := HS.out; omega)
    have HLT : Hid (q < s.size) := hlt
    clear hlt
    obtain ⟨z, hz⟩ : ∃ z, wth (sB s q) = z := ⟨_, rfl⟩
    have HZ0 : Hid (wth (sB s q) = z) := hz
    clear hz
    go_wp2_with (refine wpList_sB (.tmp 27) (.tmp 28) rfl s q _ rfl rfl rfl HLT.out rfl ?_)
    refine (worth_any (sB s q) w (sB_lt s q)).mono ?_
    rintro e1 wz ⟨rfl, rfl⟩
    rw [HZ0.out]
    by_cases hzn : 0 ≤ z
    · have z1 : decide (0 ≤ z) = true := decide_eq_true hzn
      obtain ⟨d, hd⟩ : ∃ d : Nat, z = (d : Int) := ⟨z.toNat, by omega⟩
      subst hd
      have HB : Hid (hxB (sB s q) = true) := by show _ = _; unfold hxB; rw [HZ0.out]; exact z1
      have HD : Hid (d ≤ 15) := by have := wth_le (sB s q); have := HZ0.out; show d ≤ 15; omega
      clear hzn
      by_cases h4 : q - P < 4
      · have d4 : decide ((q : Int) - (P : Int) < 4) = true := decide_eq_true (by have := HQB.out; omega)
        have H4 : Hid (q - P < 4) := h4
        have x1 : IntKind.i64.wrap (16 * (n : Int)) = 16 * (n : Int) := by rw [IntKind.wrap_i64]; have := HN6.out; omega
        have HX2 : Hid (16 * (n : Int) + (d : Int) ≤ 1048591) := by have := HN6.out; have := HD.out; show _ ≤ _; omega
        have x2 : IntKind.i64.wrap (16 * (n : Int) + (d : Int)) = 16 * (n : Int) + (d : Int) := by rw [IntKind.wrap_i64]; have := HX2.out; omega
        clear h4
        go_wp2_with (refine wpList_sB (.tmp 45) (.tmp 46) rfl s q _ rfl rfl rfl HLT.out rfl ?_)
        refine (worth_any (sB s q) w (sB_lt s q)).mono ?_
        rintro e1 wz ⟨rfl, rfl⟩
        rw [HZ0.out]
        go_wp2
        go_roundw
        case rel =>
         refine ⟨q + 1, 16 * n + d, by have := HQB.out; omega, HLT.out, by simp, by simp, ?_, ?_, by first | rfl | trivial⟩
         · show _ = _; rw [← scP_step HLT.out HB.out]; exact HQ.out
         · show _ = _
           have h5 := H4.out
           have h6 := HQB.out
           rw [show min (q + 1 - P) 4 = (q - P) + 1 by omega]
           unfold hxN
           rw [show P + (q - P) = q by omega, HZ0.out, HNN.out, show min (q - P) 4 = q - P by omega]
           rfl
        case measure => have := HLT.out; simp [intOf]; omega
      · have d4 : decide ((q : Int) - (P : Int) < 4) = false := decide_eq_false (by have := HQB.out; omega)
        have H4 : Hid (4 ≤ q - P) := by show 4 ≤ q - P; omega
        clear h4
        go_wp2
        go_roundw
        case rel =>
         refine ⟨q + 1, n, by have := HQB.out; omega, HLT.out, by simp, rfl, ?_, ?_, by first | rfl | trivial⟩
         · show _ = _; rw [← scP_step HLT.out HB.out]; exact HQ.out
         · show _ = _
           have h5 := H4.out
           rw [HNN.out, show min (q + 1 - P) 4 = min (q - P) 4 by omega]
        case measure => have := HLT.out; simp [intOf]; omega
    · have z1 : decide (0 ≤ z) = false := decide_eq_false hzn
      have HQE : Hid (scP s hxB P = q) := by show _ = _; rw [← HQ.out]; exact scP_stop (by unfold hxB; rw [HZ0.out, z1]; simp)
      have nd : (((sB s q : Nat) : Int) == 46) = false := by have := HND.out q; simp; omega
      clear hzn
      have HG0 : Hid (grp s X = grpq s X q) := by show _ = _; unfold grp; rw [HP.out, HQE.out]
      by_cases hqp : q = P
      · have e1 : ((q : Int) == (P : Int)) = true := by simp [hqp]
        have e2 : (q == P) = true := by simp [hqp]
        have HZ : Hid (grp s X = (X.fail (hrE s P).1 (hrE s P).2, true)) := by show _ = _; rw [HG0.out]; unfold grpq; rw [HP.out, e2]; rfl
        clear hqp
        go_upto_region 8 with fail
        refine MixH.start (fun A => SxAt A R s (.slice a N c) X ∧ Below w.heap.size w A) (by kernel_rfl) ?_
        obtain ⟨wA, hwA⟩ : ∃ wA, wA = w.drew := ⟨_, rfl⟩
        have bdr := zDr hwA
        have hS : SxAt wA R s (.slice a N c) X ∧ Below w.heap.size w wA := ⟨H0.out.1.below bdr, bthen H0.out.2 bdr⟩
        rw [← hwA]
        clear hwA bdr
        refine MixH.tks [true, true, true, false, true, true, true] 8 hS (fun K hK => ?_)
        simp only [Mix.pick]
        repeat (go_big_quiet_step (fail))
        refine wpQuiet_nil (hK _ ?_)
        clear hK K
        refine MixH.tk 7 3 rfl (.string s) (yields_str (.tmp 61) rfl ⟨R, 0, none⟩ (.string s) rfl rfl (fun A hA => hA.1.c0)) hS (fun a' ha => ?_)
        simp only [zP1, zP2, zP3, zP4] at ha
        subst ha
        refine MixH.tk 6 7 rfl (.int .i64 (P : Nat)) (yields_int (.tmp 65) rfl ⟨R, 3, none⟩ (.int .i64 (P : Nat)) rfl rfl (fun A hA => hA.1.c3.trans HP3.out)) hS (fun a' ha => ?_)
        simp only [zP1, zP2, zP3, zP4] at ha
        subst ha
        refine MixH.one [false, false, false, false, false, false, false, false, true] 5 8 _ rfl rfl (by kernel_rfl) (by kernel_rfl) (fun K hK => ?_)
        simp only [Mix.pick]
        go_wp2_with fail
        refine Calls.mono (here_any s P wA) ?_
        rintro e1 wz ⟨rfl, rfl⟩
        go_wp2_with fail
        refine ⟨rfl, hK _ _ hS ?_⟩
        clear hK K
        refine MixH.tks [false, false, false, false, false, false, false, false, false, true, true, true, true, true] 0 hS (fun K hK => ?_)
        simp only [Mix.pick]
        repeat (go_big_quiet_step (fail))
        refine wpQuiet_nil (hK _ ?_)
        clear hK K
        refine MixH.done (by kernel_rfl) ?_
        have H1 : Hid (SxAt wA R s (.slice a N c) X ∧ Below w.heap.size w wA) := hS
        clear hS c0 c3
        go_wp2_with fail
        refine (fail_any R s (.slice a N c) X (hrE s P).1 (hrE s P).2 wA H1.out.1).mono ?_
        rintro e3 w3 ⟨rfl, k1, k2⟩
        have H2 : Hid (SxAt w3 R s (.slice a N c) (X.fail (hrE s P).1 (hrE s P).2) ∧ Below R w w3) := ⟨k1, (H1.out.2.mono HR0.out).trans (k2.below (fun x hx => by omega) (Nat.le_of_lt H1.out.1.lt))⟩
        clear k1 k2
        go_wp2_with fail
        go_ret
        exact ⟨by rw [HZ.out]; rfl, ⟨_, by rw [HZ.out]; exact H2.out.1⟩, H2.out.2⟩
      · have e1 : ((q : Int) == (P : Int)) = false := by simp; omega
        have e2 : (q == P) = false := by simp [hqp]
        have HZ : Hid (grp s X = if decide (rmN X < N + 1) then (X.fail 44 P, true) else if decide (4 < q - P) then (X.fail 43 P, true) else ({ X with g := X.g ++ [hxN s P (q - P)], p := q }, q == s.size)) := by show _ = _; rw [HG0.out]; unfold grpq; rw [HP.out, e2, HTL.out, ← HN.out]; rfl
        have HQP : Hid (P < q) := by have := HQB.out; show P < q; omega
        have w5 : IntKind.i64.wrap ((N : Int) + 1) = (N : Int) + 1 := i64_s _ (by omega) (by have := HN8.out; omega)
        obtain ⟨m, hm⟩ : ∃ m, rmN X = m := ⟨_, rfl⟩
        have HM : Hid (rmN X = m) := hm
        clear hqp hm
        go_upto_region 15 with (refine wpList_sB (.tmp 85) (.tmp 86) rfl s q _ rfl rfl rfl HLT.out rfl ?_)
        refine MixH.start (fun A => SxAt A R s (.slice a N c) X ∧ Below w.heap.size w A) (by kernel_rfl) ?_
        obtain ⟨wA, hwA⟩ : ∃ wA, wA = w.drew := ⟨_, rfl⟩
        have bdr := zDr hwA
        have hS : SxAt wA R s (.slice a N c) X ∧ Below w.heap.size w wA := ⟨H0.out.1.below bdr, bthen H0.out.2 bdr⟩
        rw [← hwA]
        clear hwA bdr
        refine MixH.tks [true, true, true, false, false, true, false, true] 5 hS (fun K hK => ?_)
        simp only [Mix.pick]
        repeat (go_big_quiet_step (fail))
        refine wpQuiet_nil (hK _ ?_)
        clear hK K
        refine MixH.tk 4 3 rfl (.slice a N c) (yields_lst (.tmp 100) rfl ⟨R, 1, none⟩ (.slice a N c) rfl rfl (fun A hA => hA.1.c1)) hS (fun a' ha => ?_)
        simp only [zP1, zP2, zP3, zP4] at ha
        subst ha
        refine MixH.tks [false, false, false, false, true, false, true] 2 hS (fun K hK => ?_)
        simp only [Mix.pick]
        repeat (go_big_quiet_step (fail))
        refine wpQuiet_nil (hK _ ?_)
        clear hK K
        refine MixH.one [false, false, false, false, false, false, false, false, true] 1 8 _ rfl rfl (by kernel_rfl) (by kernel_rfl) (fun K hK => ?_)
        simp only [Mix.pick]
        go_wp2_with fail
        refine Calls.mono (room_any R s (.slice a N c) X wA hS.1) ?_
        rintro e3 wz ⟨rfl, rfl⟩
        rw [HM.out]
        go_wp2_with fail
        refine ⟨rfl, hK _ _ hS ?_⟩
        clear hK K
        refine MixH.tks [false, false, false, false, false, false, false, false, false, true] 0 hS (fun K hK => ?_)
        simp only [Mix.pick]
        repeat (go_big_quiet_step (fail))
        refine wpQuiet_nil (hK _ ?_)
        clear hK K
        refine MixH.done (by kernel_rfl) ?_
        have H1 : Hid (SxAt wA R s (.slice a N c) X ∧ Below w.heap.size w wA) := hS
        clear hS c0 c3
        have c0 := H1.out.1.c0
        have c1 := H1.out.1.c1
        have c3 : wA.cell? ⟨R, 3, none⟩ = some (.int .i64 (P : Nat)) := H1.out.1.c3.trans HP3.out
        by_cases hm : m < N + 1
        · have m1 : decide ((m : Int) < (N : Int) + 1) = true := decide_eq_true (by omega)
          have m2 : decide ((m : Int) ≤ (N : Int)) = true := decide_eq_true (by omega)
          have m3 : decide (m ≤ N) = true := decide_eq_true (by omega)
          have m4 : decide (m < N + 1) = true := decide_eq_true (by omega)
          have m5 : (m : Int) < (N : Int) + 1 := by omega
          have HZ2 : Hid (grp s X = (X.fail 44 P, true)) := by show _ = _; rw [HZ.out, HM.out, decide_eq_true hm]; rfl
          clear hm
          go_wp2_with fail
          refine (fail_any R s (.slice a N c) X 44 P wA H1.out.1).mono ?_
          rintro e3 w3 ⟨rfl, k1, k2⟩
          have H2 : Hid (SxAt w3 R s (.slice a N c) (X.fail 44 P) ∧ Below R w w3) := ⟨k1, (H1.out.2.mono HR0.out).trans (k2.below (fun x hx => by omega) (Nat.le_of_lt H1.out.1.lt))⟩
          clear k1 k2
          go_wp2_with fail
          go_ret
          exact ⟨by rw [HZ2.out]; rfl, ⟨_, by rw [HZ2.out]; exact H2.out.1⟩, H2.out.2⟩
        · have m1 : decide ((m : Int) < (N : Int) + 1) = false := decide_eq_false (by omega)
          have m2 : decide ((m : Int) ≤ (N : Int)) = false := decide_eq_false (by omega)
          have m3 : decide (m ≤ N) = false := decide_eq_false (by omega)
          have m4 : decide (m < N + 1) = false := decide_eq_false (by omega)
          have m5 : ¬ (m : Int) < (N : Int) + 1 := by omega
          have HZ2 : Hid (grp s X = if decide (4 < q - P) then (X.fail 43 P, true) else ({ X with g := X.g ++ [hxN s P (q - P)], p := q }, q == s.size)) := by show _ = _; rw [HZ.out, HM.out, decide_eq_false hm]; rfl
          clear hm
          by_cases h4 : 4 < q - P
          · have d4 : decide ((4 : Int) < (q : Int) - (P : Int)) = true := decide_eq_true (by omega)
            have HZ3 : Hid (grp s X = (X.fail 43 P, true)) := by show _ = _; rw [HZ2.out, decide_eq_true h4]; rfl
            clear h4
            go_wp2_with fail
            refine (fail_any R s (.slice a N c) X 43 P wA H1.out.1).mono ?_
            rintro e3 w3 ⟨rfl, k1, k2⟩
            have H2 : Hid (SxAt w3 R s (.slice a N c) (X.fail 43 P) ∧ Below R w w3) := ⟨k1, (H1.out.2.mono HR0.out).trans (k2.below (fun x hx => by omega) (Nat.le_of_lt H1.out.1.lt))⟩
            clear k1 k2
            go_wp2_with fail
            go_ret
            exact ⟨by rw [HZ3.out]; rfl, ⟨_, by rw [HZ3.out]; exact H2.out.1⟩, H2.out.2⟩
          · have d4 : decide ((4 : Int) < (q : Int) - (P : Int)) = false := decide_eq_false (by have := HQB.out; omega)
            have HZ3 : Hid (grp s X = ({ X with g := X.g ++ [n], p := q }, q == s.size)) := by
             show _ = _
             rw [HZ2.out, decide_eq_false h4, HNN.out, show min (q - P) 4 = q - P by omega]; rfl
            clear h4
            have HOA : Hid (wA.ownsRow (R + 1) 3 1 (.slice a N c) N (X.g.map fun n => Value.int .i64 (n : Nat))) := by have := H1.out.1.own; rw [← HN.out] at this; exact this
            go_wp2_with (at_builtin; refine wpList_append_own_at _ rfl (.tmp 188) (.tmp 190) 30 rfl (R + 1) 3 i0 (.int .i64 0) 1 8 Tryz.underlying30 HI.out.1 HI.out.2.1 HI.out.2.2.1 HI.out.2.2.2 rfl (by decide) _ _ _ rfl (HOA.out.alloc _) ⟨wA.heap.size, 0, none⟩ 1 1 [.int .i64 (n : Nat)] rfl rfl (cellsOne _ _ _) (by intro u hu; simp at hu; subst hu; rfl) (by have := HN8.out; unfold maxLen; omega) (by have := HN8.out; omega) (by have := H1.out.1.lt; simp; omega) ?_)
            intro v2 w2 ho2 hg2 _ _
            obtain ⟨N1, hN1⟩ : ∃ N1, N1 = N + 1 := ⟨_, rfl⟩
            have HN1 : Hid (N1 = N + 1) := hN1
            rw [← hN1] at ho2
            obtain ⟨a2, c2, hv2⟩ := owns_shape ho2
            subst hv2
            clear hN1
            have k2 : Ch (fun g => (Value.slice a N c).ownBlock = some g) (wA.alloc (.cells #[.int .i64 (n : Nat)] 3)) w2 := Ch.ofGrown hg2
            have hne : ∀ g, (Value.slice a N c).ownBlock = some g → R + 1 ≤ g := fun g hg => (HOA.out.lt g hg).1
            have kb : w2.heap[R]? = some (.cells (sxC s (.slice a N c) X) 160 (0, 0)) := by
             have h1 := H1.out.1.lt
             rw [k2.block R (by simp; omega) (fun h => by have := hne R h; omega), Below.heap_alloc wA _ R h1]
             exact H1.out.1.blk
            have HK : Hid (w2.heap[R]? = some (.cells (sxC s (.slice a N c) X) 160 (0, 0))) := kb
            have HO2 : Hid (w2.ownsRow (R + 1) 3 1 (.slice a2 N1 c2) N1 ((X.g ++ [n]).map fun n => Value.int .i64 (n : Nat))) := by show w2.ownsRow _ _ _ _ _ _; rw [List.map_append]; exact ho2
            have HB2 : Hid (Below R w w2) := (H1.out.2.mono HR0.out).trans ((((Below.refl wA.heap.size wA).alloc (Nat.le_refl _) _).mono (Nat.le_of_lt H1.out.1.lt)).trans (k2.below (fun x hx => by have := hne x hx; omega) (by have := H1.out.1.lt; simp; omega)))
            have f1 : w2.frozen? ⟨R, 1, none⟩ = false := by simp [World.frozen?, kb]
            have d1 : w2.cell? ⟨R, 1, none⟩ = some (.slice a N c) := by simp [World.cell?, kb, sxC]
            have H2 : Hid (SxAt (w2.setCell ⟨R, 1, none⟩ (.slice a2 N1 c2)) R s (.slice a2 N1 c2) { X with g := X.g ++ [n] }) := by
             refine ⟨?_, ?_⟩
             · rw [heap_setCell_same w2 R 1 _ _ (.slice a2 N1 c2) kb]; rfl
             · refine ((Ch.refl (fun q => q = R) w2).set ⟨R, 1, none⟩ (.slice a2 N1 c2) rfl).owns ?_ (fun g h1 h2 => by have := (HO2.out.lt g h1).1; omega)
               have := HO2.out
               rw [HN1.out, HN.out] at this
               rw [HN1.out, HN.out]
               show w2.ownsRow _ _ _ _ (X.g ++ [n]).length _
               rw [List.length_append]
               exact this
            obtain ⟨w3, hw3⟩ : ∃ w3, w3 = w2.setCell ⟨R, 1, none⟩ (.slice a2 N1 c2) := ⟨_, rfl⟩
            have HW3 : Hid (w2.setCell ⟨R, 1, none⟩ (.slice a2 N1 c2) = w3) := hw3.symm
            have H3 : Hid (SxAt w3 R s (.slice a2 N1 c2) { X with g := X.g ++ [n] } ∧ Below R w w3) := by rw [hw3]; exact ⟨H2.out, HB2.out.setCell (Nat.le_refl _) _⟩
            have f3 := H3.out.1.fz 3
            have d3 : w3.cell? ⟨R, 3, none⟩ = some (.int .i64 (P : Nat)) := H3.out.1.c3.trans HP3.out
            obtain ⟨w4, hw4⟩ : ∃ w4, w4 = w3.setCell ⟨R, 3, none⟩ (.int .i64 (q : Nat)) := ⟨_, rfl⟩
            have HW4 : Hid (w3.setCell ⟨R, 3, none⟩ (.int .i64 (q : Nat)) = w4) := hw4.symm
            have H4 : Hid (SxAt w4 R s (.slice a2 N1 c2) { X with g := X.g ++ [n], p := q } ∧ Below R w w4) := by rw [hw4]; exact ⟨H3.out.1.set 3 _ rfl rfl, H3.out.2.setCell (Nat.le_refl _) _⟩
            have d0 := H4.out.1.c0
            clear ho2 hg2 k2 hne kb H2 hw3 hw4 c0 c1 c3
            go_upto_region 30 with fail
            rw [HW3.out]
            go_upto_region 31 with fail
            rw [HW4.out]
            go_wp2_with fail
            go_ret
            exact ⟨by rw [HZ3.out]; rw [← Bool.eq_iff_iff.2 (show ((q : Int) == (s.size : Int)) = true ↔ (q == s.size) = true by simp; omega)]; rfl, ⟨_, by rw [HZ3.out]; exact H4.out.1⟩, H4.out.2⟩
  · have p1 : decide ((q : Int) < (s.size : Int)) = false := decide_eq_false (by omega)
    have p2 : decide (q < s.size) = false := decide_eq_false hlt
    have w2 : IntKind.i64.wrap ((q : Int) - (P : Int)) = (q : Int) - (P : Int) := i64_s _ (by have := HS.out; have := HPS.out; have := HQB.out; omega) (by have := HS.out; have := HQB.out; omega)
    have HQE : Hid (scP s hxB P = q) := by show _ = _; rw [← HQ.out]; exact scP_stop (by rw [p2]; simp)
    clear hlt
    have HG0 : Hid (grp s X = grpq s X q) := by show _ = _; unfold grp; rw [HP.out, HQE.out]
    by_cases hqp : q = P
    · have e1 : ((q : Int) == (P : Int)) = true := by simp [hqp]
      have e2 : (q == P) = true := by simp [hqp]
      have HZ : Hid (grp s X = (X.fail (hrE s P).1 (hrE s P).2, true)) := by show _ = _; rw [HG0.out]; unfold grpq; rw [HP.out, e2]; rfl
      clear hqp
      go_upto_region 8 with fail
      refine MixH.start (fun A => SxAt A R s (.slice a N c) X ∧ Below w.heap.size w A) (by kernel_rfl) ?_
      obtain ⟨wA, hwA⟩ : ∃ wA, wA = w.drew := ⟨_, rfl⟩
      have bdr := zDr hwA
      have hS : SxAt wA R s (.slice a N c) X ∧ Below w.heap.size w wA := ⟨H0.out.1.below bdr, bthen H0.out.2 bdr⟩
      rw [← hwA]
      clear hwA bdr
      refine MixH.tks [true, true, true, false, true, true, true] 8 hS (fun K hK => ?_)
      simp only [Mix.pick]
      repeat (go_big_quiet_step (fail))
      refine wpQuiet_nil (hK _ ?_)
      clear hK K
      refine MixH.tk 7 3 rfl (.string s) (yields_str (.tmp 61) rfl ⟨R, 0, none⟩ (.string s) rfl rfl (fun A hA => hA.1.c0)) hS (fun a' ha => ?_)
      simp only [zP1, zP2, zP3, zP4] at ha
      subst ha
      refine MixH.tk 6 7 rfl (.int .i64 (P : Nat)) (yields_int (.tmp 65) rfl ⟨R, 3, none⟩ (.int .i64 (P : Nat)) rfl rfl (fun A hA => hA.1.c3.trans HP3.out)) hS (fun a' ha => ?_)
      simp only [zP1, zP2, zP3, zP4] at ha
      subst ha
      refine MixH.one [false, false, false, false, false, false, false, false, true] 5 8 _ rfl rfl (by kernel_rfl) (by kernel_rfl) (fun K hK => ?_)
      simp only [Mix.pick]
      go_wp2_with fail
      refine Calls.mono (here_any s P wA) ?_
      rintro e1 wz ⟨rfl, rfl⟩
      go_wp2_with fail
      refine ⟨rfl, hK _ _ hS ?_⟩
      clear hK K
      refine MixH.tks [false, false, false, false, false, false, false, false, false, true, true, true, true, true] 0 hS (fun K hK => ?_)
      simp only [Mix.pick]
      repeat (go_big_quiet_step (fail))
      refine wpQuiet_nil (hK _ ?_)
      clear hK K
      refine MixH.done (by kernel_rfl) ?_
      have H1 : Hid (SxAt wA R s (.slice a N c) X ∧ Below w.heap.size w wA) := hS
      clear hS c0 c3
      go_wp2_with fail
      refine (fail_any R s (.slice a N c) X (hrE s P).1 (hrE s P).2 wA H1.out.1).mono ?_
      rintro e3 w3 ⟨rfl, k1, k2⟩
      have H2 : Hid (SxAt w3 R s (.slice a N c) (X.fail (hrE s P).1 (hrE s P).2) ∧ Below R w w3) := ⟨k1, (H1.out.2.mono HR0.out).trans (k2.below (fun x hx => by omega) (Nat.le_of_lt H1.out.1.lt))⟩
      clear k1 k2
      go_wp2_with fail
      go_ret
      exact ⟨by rw [HZ.out]; rfl, ⟨_, by rw [HZ.out]; exact H2.out.1⟩, H2.out.2⟩
    · have e1 : ((q : Int) == (P : Int)) = false := by simp; omega
      have e2 : (q == P) = false := by simp [hqp]
      have HZ : Hid (grp s X = if decide (rmN X < N + 1) then (X.fail 44 P, true) else if decide (4 < q - P) then (X.fail 43 P, true) else ({ X with g := X.g ++ [hxN s P (q - P)], p := q }, q == s.size)) := by show _ = _; rw [HG0.out]; unfold grpq; rw [HP.out, e2, HTL.out, ← HN.out]; rfl
      have HQP : Hid (P < q) := by have := HQB.out; show P < q; omega
      have w5 : IntKind.i64.wrap ((N : Int) + 1) = (N : Int) + 1 := i64_s _ (by omega) (by have := HN8.out; omega)
      obtain ⟨m, hm⟩ : ∃ m, rmN X = m := ⟨_, rfl⟩
      have HM : Hid (rmN X = m) := hm
      clear hqp hm
      go_upto_region 15 with fail
      refine MixH.start (fun A => SxAt A R s (.slice a N c) X ∧ Below w.heap.size w A) (by kernel_rfl) ?_
      obtain ⟨wA, hwA⟩ : ∃ wA, wA = w.drew := ⟨_, rfl⟩
      have bdr := zDr hwA
      have hS : SxAt wA R s (.slice a N c) X ∧ Below w.heap.size w wA := ⟨H0.out.1.below bdr, bthen H0.out.2 bdr⟩
      rw [← hwA]
      clear hwA bdr
      refine MixH.tks [true, true, true, false, false, true, false, true] 5 hS (fun K hK => ?_)
      simp only [Mix.pick]
      repeat (go_big_quiet_step (fail))
      refine wpQuiet_nil (hK _ ?_)
      clear hK K
      refine MixH.tk 4 3 rfl (.slice a N c) (yields_lst (.tmp 100) rfl ⟨R, 1, none⟩ (.slice a N c) rfl rfl (fun A hA => hA.1.c1)) hS (fun a' ha => ?_)
      simp only [zP1, zP2, zP3, zP4] at ha
      subst ha
      refine MixH.tks [false, false, false, false, true, false, true] 2 hS (fun K hK => ?_)
      simp only [Mix.pick]
      repeat (go_big_quiet_step (fail))
      refine wpQuiet_nil (hK _ ?_)
      clear hK K
      refine MixH.one [false, false, false, false, false, false, false, false, true] 1 8 _ rfl rfl (by kernel_rfl) (by kernel_rfl) (fun K hK => ?_)
      simp only [Mix.pick]
      go_wp2_with fail
      refine Calls.mono (room_any R s (.slice a N c) X wA hS.1) ?_
      rintro e3 wz ⟨rfl, rfl⟩
      rw [HM.out]
      go_wp2_with fail
      refine ⟨rfl, hK _ _ hS ?_⟩
      clear hK K
      refine MixH.tks [false, false, false, false, false, false, false, false, false, true] 0 hS (fun K hK => ?_)
      simp only [Mix.pick]
      repeat (go_big_quiet_step (fail))
      refine wpQuiet_nil (hK _ ?_)
      clear hK K
      refine MixH.done (by kernel_rfl) ?_
      have H1 : Hid (SxAt wA R s (.slice a N c) X ∧ Below w.heap.size w wA) := hS
      clear hS c0 c3
      have c0 := H1.out.1.c0
      have c1 := H1.out.1.c1
      have c3 : wA.cell? ⟨R, 3, none⟩ = some (.int .i64 (P : Nat)) := H1.out.1.c3.trans HP3.out
      by_cases hm : m < N + 1
      · have m1 : decide ((m : Int) < (N : Int) + 1) = true := decide_eq_true (by omega)
        have m2 : decide ((m : Int) ≤ (N : Int)) = true := decide_eq_true (by omega)
        have m3 : decide (m ≤ N) = true := decide_eq_true (by omega)
        have m4 : decide (m < N + 1) = true := decide_eq_true (by omega)
        have m5 : (m : Int) < (N : Int) + 1 := by omega
        have HZ2 : Hid (grp s X = (X.fail 44 P, true)) := by show _ = _; rw [HZ.out, HM.out, decide_eq_true hm]; rfl
        clear hm
        go_wp2_with fail
        refine (fail_any R s (.slice a N c) X 44 P wA H1.out.1).mono ?_
        rintro e3 w3 ⟨rfl, k1, k2⟩
        have H2 : Hid (SxAt w3 R s (.slice a N c) (X.fail 44 P) ∧ Below R w w3) := ⟨k1, (H1.out.2.mono HR0.out).trans (k2.below (fun x hx => by omega) (Nat.le_of_lt H1.out.1.lt))⟩
        clear k1 k2
        go_wp2_with fail
        go_ret
        exact ⟨by rw [HZ2.out]; rfl, ⟨_, by rw [HZ2.out]; exact H2.out.1⟩, H2.out.2⟩
      · have m1 : decide ((m : Int) < (N : Int) + 1) = false := decide_eq_false (by omega)
        have m2 : decide ((m : Int) ≤ (N : Int)) = false := decide_eq_false (by omega)
        have m3 : decide (m ≤ N) = false := decide_eq_false (by omega)
        have m4 : decide (m < N + 1) = false := decide_eq_false (by omega)
        have m5 : ¬ (m : Int) < (N : Int) + 1 := by omega
        have HZ2 : Hid (grp s X = if decide (4 < q - P) then (X.fail 43 P, true) else ({ X with g := X.g ++ [hxN s P (q - P)], p := q }, q == s.size)) := by show _ = _; rw [HZ.out, HM.out, decide_eq_false hm]; rfl
        clear hm
        by_cases h4 : 4 < q - P
        · have d4 : decide ((4 : Int) < (q : Int) - (P : Int)) = true := decide_eq_true (by omega)
          have HZ3 : Hid (grp s X = (X.fail 43 P, true)) := by show _ = _; rw [HZ2.out, decide_eq_true h4]; rfl
          clear h4
          go_wp2_with fail
          refine (fail_any R s (.slice a N c) X 43 P wA H1.out.1).mono ?_
          rintro e3 w3 ⟨rfl, k1, k2⟩
          have H2 : Hid (SxAt w3 R s (.slice a N c) (X.fail 43 P) ∧ Below R w w3) := ⟨k1, (H1.out.2.mono HR0.out).trans (k2.below (fun x hx => by omega) (Nat.le_of_lt H1.out.1.lt))⟩
          clear k1 k2
          go_wp2_with fail
          go_ret
          exact ⟨by rw [HZ3.out]; rfl, ⟨_, by rw [HZ3.out]; exact H2.out.1⟩, H2.out.2⟩
        · have d4 : decide ((4 : Int) < (q : Int) - (P : Int)) = false := decide_eq_false (by have := HQB.out; omega)
          have HZ3 : Hid (grp s X = ({ X with g := X.g ++ [n], p := q }, q == s.size)) := by
           show _ = _
           rw [HZ2.out, decide_eq_false h4, HNN.out, show min (q - P) 4 = q - P by omega]; rfl
          clear h4
          have HOA : Hid (wA.ownsRow (R + 1) 3 1 (.slice a N c) N (X.g.map fun n => Value.int .i64 (n : Nat))) := by have := H1.out.1.own; rw [← HN.out] at this; exact this
          go_wp2_with (at_builtin; refine wpList_append_own_at _ rfl (.tmp 188) (.tmp 190) 30 rfl (R + 1) 3 i0 (.int .i64 0) 1 8 Tryz.underlying30 HI.out.1 HI.out.2.1 HI.out.2.2.1 HI.out.2.2.2 rfl (by decide) _ _ _ rfl (HOA.out.alloc _) ⟨wA.heap.size, 0, none⟩ 1 1 [.int .i64 (n : Nat)] rfl rfl (cellsOne _ _ _) (by intro u hu; simp at hu; subst hu; rfl) (by have := HN8.out; unfold maxLen; omega) (by have := HN8.out; omega) (by have := H1.out.1.lt; simp; omega) ?_)
          intro v2 w2 ho2 hg2 _ _
          obtain ⟨N1, hN1⟩ : ∃ N1, N1 = N + 1 := ⟨_, rfl⟩
          have HN1 : Hid (N1 = N + 1) := hN1
          rw [← hN1] at ho2
          obtain ⟨a2, c2, hv2⟩ := owns_shape ho2
          subst hv2
          clear hN1
          have k2 : Ch (fun g => (Value.slice a N c).ownBlock = some g) (wA.alloc (.cells #[.int .i64 (n : Nat)] 3)) w2 := Ch.ofGrown hg2
          have hne : ∀ g, (Value.slice a N c).ownBlock = some g → R + 1 ≤ g := fun g hg => (HOA.out.lt g hg).1
          have kb : w2.heap[R]? = some (.cells (sxC s (.slice a N c) X) 160 (0, 0)) := by
           have h1 := H1.out.1.lt
           rw [k2.block R (by simp; omega) (fun h => by have := hne R h; omega), Below.heap_alloc wA _ R h1]
           exact H1.out.1.blk
          have HK : Hid (w2.heap[R]? = some (.cells (sxC s (.slice a N c) X) 160 (0, 0))) := kb
          have HO2 : Hid (w2.ownsRow (R + 1) 3 1 (.slice a2 N1 c2) N1 ((X.g ++ [n]).map fun n => Value.int .i64 (n : Nat))) := by show w2.ownsRow _ _ _ _ _ _; rw [List.map_append]; exact ho2
          have HB2 : Hid (Below R w w2) := (H1.out.2.mono HR0.out).trans ((((Below.refl wA.heap.size wA).alloc (Nat.le_refl _) _).mono (Nat.le_of_lt H1.out.1.lt)).trans (k2.below (fun x hx => by have := hne x hx; omega) (by have := H1.out.1.lt; simp; omega)))
          have f1 : w2.frozen? ⟨R, 1, none⟩ = false := by simp [World.frozen?, kb]
          have d1 : w2.cell? ⟨R, 1, none⟩ = some (.slice a N c) := by simp [World.cell?, kb, sxC]
          have H2 : Hid (SxAt (w2.setCell ⟨R, 1, none⟩ (.slice a2 N1 c2)) R s (.slice a2 N1 c2) { X with g := X.g ++ [n] }) := by
           refine ⟨?_, ?_⟩
           · rw [heap_setCell_same w2 R 1 _ _ (.slice a2 N1 c2) kb]; rfl
           · refine ((Ch.refl (fun q => q = R) w2).set ⟨R, 1, none⟩ (.slice a2 N1 c2) rfl).owns ?_ (fun g h1 h2 => by have := (HO2.out.lt g h1).1; omega)
             have := HO2.out
             rw [HN1.out, HN.out] at this
             rw [HN1.out, HN.out]
             show w2.ownsRow _ _ _ _ (X.g ++ [n]).length _
             rw [List.length_append]
             exact this
          obtain ⟨w3, hw3⟩ : ∃ w3, w3 = w2.setCell ⟨R, 1, none⟩ (.slice a2 N1 c2) := ⟨_, rfl⟩
          have HW3 : Hid (w2.setCell ⟨R, 1, none⟩ (.slice a2 N1 c2) = w3) := hw3.symm
          have H3 : Hid (SxAt w3 R s (.slice a2 N1 c2) { X with g := X.g ++ [n] } ∧ Below R w w3) := by rw [hw3]; exact ⟨H2.out, HB2.out.setCell (Nat.le_refl _) _⟩
          have f3 := H3.out.1.fz 3
          have d3 : w3.cell? ⟨R, 3, none⟩ = some (.int .i64 (P : Nat)) := H3.out.1.c3.trans HP3.out
          obtain ⟨w4, hw4⟩ : ∃ w4, w4 = w3.setCell ⟨R, 3, none⟩ (.int .i64 (q : Nat)) := ⟨_, rfl⟩
          have HW4 : Hid (w3.setCell ⟨R, 3, none⟩ (.int .i64 (q : Nat)) = w4) := hw4.symm
          have H4 : Hid (SxAt w4 R s (.slice a2 N1 c2) { X with g := X.g ++ [n], p := q } ∧ Below R w w4) := by rw [hw4]; exact ⟨H3.out.1.set 3 _ rfl rfl, H3.out.2.setCell (Nat.le_refl _) _⟩
          have d0 := H4.out.1.c0
          clear ho2 hg2 k2 hne kb H2 hw3 hw4 c0 c1 c3
          go_upto_region 30 with fail
          rw [HW3.out]
          go_upto_region 31 with fail
          rw [HW4.out]
          go_wp2_with fail
          go_ret
          exact ⟨by rw [HZ3.out]; rw [← Bool.eq_iff_iff.2 (show ((q : Int) == (s.size : Int)) = true ↔ (q == s.size) = true by simp; omega)]; rfl, ⟨_, by rw [HZ3.out]; exact H4.out.1⟩, H4.out.2⟩
end Go.Proofs.YtclpeepnngegaaaGreatDoor
