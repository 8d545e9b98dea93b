/-
  weirref4: six.between.
-/
import Derived.Test.YtclpeepnngegaaaDoorR4g
import Derived.Test.YtclpeepnngegaaaDoorFlFn1
namespace Go.Proofs.YtclpeepnngegaaaDoor
open Go.RowKit Go.Maps

theorem yields_str {ops : Array Oper} {o : Oper} {a : Act} {S : World → Prop} (x : Operand) (ho : o.op = .load 9 x) (p : Addr) (u : Value) (hx : a.eval x = .pointer (some p)) (hw : Region.wanted o (yielded ops a.tmps) = true) (hS : ∀ w, S w → w.cell? p = some u) : YieldsIf Tryd.prog ops S o u a := by
  refine .inl ⟨hw, fun w hb => ?_⟩
  have hc := hS w hb
  have hu := Tryd.underlying9
  obtain ⟨dst, op, type, pos, after, guard⟩ := o
  simp only at ho
  subst ho
  simp only [execOp, Sem.run_bind, Sem.run_pure]
  rw [hx]
  simp [Instr.loadAt, go_sem, hc]
theorem yields_lst {ops : Array Oper} {o : Oper} {a : Act} {S : World → Prop} (x : Operand) (ho : o.op = .load 111 x) (p : Addr) (u : Value) (hx : a.eval x = .pointer (some p)) (hw : Region.wanted o (yielded ops a.tmps) = true) (hS : ∀ w, S w → w.cell? p = some u) : YieldsIf Tryd.prog ops S o u a := by
  refine .inl ⟨hw, fun w hb => ?_⟩
  have hc := hS w hb
  have hu := Tryd.underlying111
  obtain ⟨dst, op, type, pos, after, guard⟩ := o
  simp only at ho
  subst ho
  simp only [execOp, Sem.run_bind, Sem.run_pure]
  rw [hx]
  simp [Instr.loadAt, go_sem, hc]
/-- what stands behind a group -/
def btw (s : ByteArray) (X : SX) : SX × Bool :=
  if twB s X.p then (if decide (0 ≤ X.gap) || X.g.length == 8 then (X.fail 44 X.p, false) else ({ X with gap := (X.g.length : Nat), p := X.p + 2 }, X.p + 2 == s.size))
  else if sB s X.p == 58 then ({ X with p := X.p + 1 }, false) else (X.fail 41 X.p, false)
set_option maxHeartbeats 1600000 in
set_option maxRecDepth 100000 in
theorem between_any (R : Nat) (s : ByteArray) (lv : Value) (X : SX) (w : World) (h : SxAt w R s lv X) (hp : X.p < s.size) (hs : s.size ≤ 1000) : Calls Tryd.prog 88 #[.pointer (some ⟨R, 0, none⟩)] w fun r w' => r = .returned (.bool (btw s X).2) ∧ SxAt w' R s lv (btw s X).1 ∧ Ch (fun q => q = R) w w' := by
  obtain ⟨N, hN⟩ : ∃ N, N = X.g.length := ⟨_, rfl⟩
  obtain ⟨a, c, hlv⟩ := owns_shape h.own
  rw [← hN] at hlv
  subst hlv
  have HN : Hid (N = X.g.length) := hN
  obtain ⟨P, hP⟩ : ∃ P, X.p = P := ⟨_, rfl⟩
  have HP : Hid (X.p = P) := hP
  have HP3 : Hid (some (Value.int .i64 ((X.p : Nat) : Int)) = some (Value.int .i64 ((P : Nat) : Int))) := by show _ = _; rw [hP]
  have HPS : Hid (P < s.size) := by show P < s.size; rw [← hP]; exact hp
  have HS : Hid (s.size ≤ 1000) := hs
  obtain ⟨G, hG⟩ : ∃ G, X.gap = G := ⟨_, rfl⟩
  have HG : Hid (X.gap = G) := hG
  have H0 : Hid (SxAt w R s (.slice a N c) X ∧ Ch (fun q => q = R) w w) := ⟨h, Ch.refl _ _⟩
  obtain ⟨b, hb⟩ : ∃ b, twB s P = b := ⟨_, rfl⟩
  have HB : Hid (twB s P = b) := hb
  clear hN hP hp hs hG h hb
  go_enter Tryd.func88, Tryd.ntmps88
  go_upto_region 1 with fail
  refine MixH.start (fun A => SxAt A R s (.slice a N c) X ∧ Ch (fun q => q = R) w A) (by kernel_rfl) ?_
  obtain ⟨wA, hwA⟩ : ∃ wA, wA = w.drew := ⟨_, rfl⟩
  have bdr : Below w.heap.size w wA := by rw [hwA]; exact (Below.refl _ _).drew
  have hS : SxAt wA R s (.slice a N c) X ∧ Ch (fun q => q = R) w wA := ⟨H0.out.1.below bdr, H0.out.2.trans (Ch.ofBelow bdr) (fun _ _ h => h)⟩
  rw [← hwA]
  clear hwA bdr
  refine MixH.takes [true, true, true, false, true, true, true] 4 (by kernel_rfl) (by kernel_rfl) (by decide) (by kernel_rfl) hS (fun K hK => ?_)
  simp only [Mix.pick]
  repeat (go_big_quiet_step (fail))
  refine wpQuiet_nil (hK _ ?_)
  clear hK K
  refine MixH.take 3 3 _ (.string s) rfl (by kernel_rfl) (by kernel_rfl) (by kernel_rfl) (by kernel_rfl) (yields_str (.tmp 6) rfl ⟨R, 0, none⟩ (.string s) rfl rfl (fun A hA => hA.1.c0)) hS (fun a' ha => ?_)
  simp only [Act.put, List.setIfInBounds_toArray, List.set_cons_succ, List.set_cons_zero] at ha
  subst ha
  refine MixH.take 2 7 _ (.int .i64 (P : Nat)) rfl (by kernel_rfl) (by kernel_rfl) (by kernel_rfl) (by kernel_rfl) (yields_int (.tmp 10) rfl ⟨R, 3, none⟩ (.int .i64 (P : Nat)) rfl rfl (fun A hA => hA.1.c3.trans HP3.out)) hS (fun a' ha => ?_)
  simp only [Act.put, List.setIfInBounds_toArray, List.set_cons_succ, List.set_cons_zero] at ha
  subst ha
  refine MixH.one [false, false, false, false, false, false, false, false, true] 1 8 _ rfl rfl (by kernel_rfl) (by kernel_rfl) (fun K hK => ?_)
  simp only [Mix.pick]
  go_wp2_with fail
  refine Calls.mono (two_any s P wA (by have h1 := HPS.out; have h2 := HS.out; omega)) ?_
  rintro e1 wz ⟨rfl, rfl⟩
  rw [HB.out]
  go_wp2_with fail
  refine ⟨rfl, hK _ _ hS ?_⟩
  clear hK K
  refine MixH.takes [false, false, false, false, false, false, false, false, false, true] 0 (by kernel_rfl) (by kernel_rfl) (by decide) (by kernel_rfl) hS (fun K hK => ?_)
  simp only [Mix.pick]
  repeat (go_big_quiet_step (fail))
  refine wpQuiet_nil (hK _ ?_)
  clear hK K
  refine MixH.done (by kernel_rfl) ?_
  have H1 : Hid (SxAt wA R s (.slice a N c) X ∧ Ch (fun q => q = R) w wA) := hS
  have c2 : wA.cell? ⟨R, 2, none⟩ = some (.int .i64 G) := by rw [← HG.out]; exact H1.out.1.c2
  have c1 := H1.out.1.c1
  have c3 : wA.cell? ⟨R, 3, none⟩ = some (.int .i64 (P : Nat)) := H1.out.1.c3.trans HP3.out
  clear hS
  cases b with
  | true =>
    by_cases hc : (decide (0 ≤ G) || N == 8) = true
    · have HZ : Hid (btw s X = (X.fail 44 P, false)) := by show _ = _; unfold btw; rw [HP.out, HB.out, HG.out, ← HN.out, hc]; rfl
      by_cases h0 : 0 ≤ G
      · have q1 : decide (0 ≤ G) = true := decide_eq_true h0
        clear hc h0
        go_wp2_with fail
        refine (fail_any R s (.slice a N c) X 44 P wA H1.out.1).mono ?_
        rintro e1 w2 ⟨rfl, k1, k2⟩
        have H2 : Hid (SxAt w2 R s (.slice a N c) (X.fail 44 P) ∧ Ch (fun q => q = R) w w2) := ⟨k1, H1.out.2.trans k2 (fun _ _ h => h)⟩
        clear k1 k2
        go_wp2_with fail
        go_ret
        exact ⟨by rw [HZ.out]; rfl, by rw [HZ.out]; exact H2.out.1, H2.out.2⟩
      · have q1 : decide (0 ≤ G) = false := decide_eq_false h0
        have q2 : (((N : Nat) : Int) == 8) = true := by rw [q1] at hc; simp at hc; simp [hc]
        clear hc h0
        go_wp2_with fail
        refine (fail_any R s (.slice a N c) X 44 P wA H1.out.1).mono ?_
        rintro e1 w2 ⟨rfl, k1, k2⟩
        have H2 : Hid (SxAt w2 R s (.slice a N c) (X.fail 44 P) ∧ Ch (fun q => q = R) w w2) := ⟨k1, H1.out.2.trans k2 (fun _ _ h => h)⟩
        clear k1 k2
        go_wp2_with fail
        go_ret
        exact ⟨by rw [HZ.out]; rfl, by rw [HZ.out]; exact H2.out.1, H2.out.2⟩
    · have hc2 : (decide (0 ≤ G) || N == 8) = false := by simpa using hc
      have HZ : Hid (btw s X = ({ X with gap := (N : Nat), p := P + 2 }, P + 2 == s.size)) := by show _ = _; unfold btw; rw [HP.out, HB.out, HG.out, ← HN.out, hc2]; rfl
      simp at hc2
      have q1 : decide (0 ≤ G) = false := decide_eq_false (by omega)
      have q2 : (((N : Nat) : Int) == 8) = false := by simp; omega
      have q3 : IntKind.i64.wrap ((P : Int) + 2) = (P : Int) + 2 := i64_s _ (by omega) (by have := HPS.out; have := HS.out; omega)
      clear hc hc2
      obtain ⟨w2, hw2⟩ : ∃ w2, w2 = wA.setCell ⟨R, 2, none⟩ (.int .i64 (N : Nat)) := ⟨_, rfl⟩
      have H2 : Hid (SxAt w2 R s (.slice a N c) { X with gap := (N : Nat) } ∧ Ch (fun q => q = R) w w2) := by rw [hw2]; exact ⟨H1.out.1.set 2 _ rfl rfl, H1.out.2.set ⟨R, 2, none⟩ _ rfl⟩
      have f2 := H1.out.1.fz 2
      have f3 := H2.out.1.fz 3
      have d3 : w2.cell? ⟨R, 3, none⟩ = some (.int .i64 (P : Nat)) := H2.out.1.c3.trans HP3.out
      obtain ⟨Q, hQ⟩ : ∃ Q : Nat, Q = P + 2 := ⟨_, rfl⟩
      have HQ : Hid (Q = P + 2) := hQ
      have q5 : (P : Int) + 2 = (Q : Int) := by omega
      rw [q5] at q3
      obtain ⟨w3, hw3⟩ : ∃ w3, w3 = w2.setCell ⟨R, 3, none⟩ (.int .i64 (Q : Nat)) := ⟨_, rfl⟩
      have H3 : Hid (SxAt w3 R s (.slice a N c) { X with gap := (N : Nat), p := Q } ∧ Ch (fun q => q = R) w w3) := by rw [hw3]; exact ⟨H2.out.1.set 3 _ rfl rfl, H2.out.2.set ⟨R, 3, none⟩ _ rfl⟩
      have HW2 : Hid (wA.setCell ⟨R, 2, none⟩ (.int .i64 (N : Nat)) = w2) := hw2.symm
      have HW3 : Hid (w2.setCell ⟨R, 3, none⟩ (.int .i64 (Q : Nat)) = w3) := hw3.symm
      clear hw2 hw3 hQ
      go_upto_region 7 with fail
      rw [HW2.out]
      clear f2 c1 c2 c3
      go_upto_region 8 with fail
      rw [HW3.out]
      refine MixH.start (fun A => SxAt A R s (.slice a N c) { X with gap := (N : Nat), p := Q } ∧ Ch (fun q => q = R) w A) (by kernel_rfl) ?_
      obtain ⟨wB, hwA⟩ : ∃ wB, wB = w3.drew := ⟨_, rfl⟩
      have bdr : Below w3.heap.size w3 wB := by rw [hwA]; exact (Below.refl _ _).drew
      have hS : SxAt wB R s (.slice a N c) { X with gap := (N : Nat), p := Q } ∧ Ch (fun q => q = R) w wB := ⟨H3.out.1.below bdr, H3.out.2.trans (Ch.ofBelow bdr) (fun _ _ h => h)⟩
      rw [← hwA]
      clear hwA bdr
      refine MixH.takes [true, true, true, false, true, true, true] 5 (by kernel_rfl) (by kernel_rfl) (by decide) (by kernel_rfl) hS (fun K hK => ?_)
      simp only [Mix.pick]
      repeat (go_big_quiet_step (fail))
      refine wpQuiet_nil (hK _ ?_)
      clear hK K
      refine MixH.take 4 3 _ (.int .i64 (Q : Nat)) rfl (by kernel_rfl) (by kernel_rfl) (by kernel_rfl) (by kernel_rfl) (yields_int (.tmp 62) rfl ⟨R, 3, none⟩ (.int .i64 (Q : Nat)) rfl rfl (fun A hA => hA.1.c3)) hS (fun a' ha => ?_)
      simp only [Act.put, List.setIfInBounds_toArray, List.set_cons_succ, List.set_cons_zero] at ha
      subst ha
      refine MixH.take 3 7 _ (.string s) rfl (by kernel_rfl) (by kernel_rfl) (by kernel_rfl) (by kernel_rfl) (yields_str (.tmp 66) rfl ⟨R, 0, none⟩ (.string s) rfl rfl (fun A hA => hA.1.c0)) hS (fun a' ha => ?_)
      simp only [Act.put, List.setIfInBounds_toArray, List.set_cons_succ, List.set_cons_zero] at ha
      subst ha
      refine MixH.takes [false, false, false, false, false, false, false, false, true, true, true] 0 (by kernel_rfl) (by kernel_rfl) (by decide) (by kernel_rfl) hS (fun K hK => ?_)
      simp only [Mix.pick]
      repeat (go_big_quiet_step (fail))
      refine wpQuiet_nil (hK _ ?_)
      clear hK K
      refine MixH.done (by kernel_rfl) ?_
      have H4 : Hid (SxAt wB R s (.slice a N c) { X with gap := (N : Nat), p := Q } ∧ Ch (fun q => q = R) w wB) := hS
      clear hS
      go_wp2_with fail
      go_ret
      exact ⟨by rw [HZ.out, ← HQ.out]; rw [← Bool.eq_iff_iff.2 (show ((Q : Int) == (s.size : Int)) = true ↔ (Q == s.size) = true by simp; omega)]; rfl, by rw [HZ.out, ← HQ.out]; exact H4.out.1, H4.out.2⟩
  | false =>
    have c0 := H1.out.1.c0
    go_upto_region 9 with fail
    refine MixH.start (fun A => SxAt A R s (.slice a N c) X ∧ Ch (fun q => q = R) w A) (by kernel_rfl) ?_
    obtain ⟨wB, hwA⟩ : ∃ wB, wB = wA.drew := ⟨_, rfl⟩
    have bdr : Below wA.heap.size wA wB := by rw [hwA]; exact (Below.refl _ _).drew
    have hS : SxAt wB R s (.slice a N c) X ∧ Ch (fun q => q = R) w wB := ⟨H1.out.1.below bdr, H1.out.2.trans (Ch.ofBelow bdr) (fun _ _ h => h)⟩
    rw [← hwA]
    clear hwA bdr
    refine MixH.takes [true, true, true, false, true, true, true] 5 (by kernel_rfl) (by kernel_rfl) (by decide) (by kernel_rfl) hS (fun K hK => ?_)
    simp only [Mix.pick]
    repeat (go_big_quiet_step (fail))
    refine wpQuiet_nil (hK _ ?_)
    clear hK K
    refine MixH.take 4 3 _ (.string s) rfl (by kernel_rfl) (by kernel_rfl) (by kernel_rfl) (by kernel_rfl) (yields_str (.tmp 73) rfl ⟨R, 0, none⟩ (.string s) rfl rfl (fun A hA => hA.1.c0)) hS (fun a' ha => ?_)
    simp only [Act.put, List.setIfInBounds_toArray, List.set_cons_succ, List.set_cons_zero] at ha
    subst ha
    refine MixH.take 3 7 _ (.int .i64 (P : Nat)) rfl (by kernel_rfl) (by kernel_rfl) (by kernel_rfl) (by kernel_rfl) (yields_int (.tmp 77) rfl ⟨R, 3, none⟩ (.int .i64 (P : Nat)) rfl rfl (fun A hA => hA.1.c3.trans HP3.out)) hS (fun a' ha => ?_)
    simp only [Act.put, List.setIfInBounds_toArray, List.set_cons_succ, List.set_cons_zero] at ha
    subst ha
    refine MixH.one [false, false, false, false, false, false, false, false, true] 2 8 _ rfl rfl (by kernel_rfl) (by kernel_rfl) (fun K hK => ?_)
    simp only [Mix.pick]
    refine wpList_sB (.tmp 74) (.tmp 78) rfl s P _ rfl rfl rfl HPS.out rfl ?_
    go_wp2_with fail
    refine ⟨rfl, hK _ _ hS ?_⟩
    clear hK K
    refine MixH.takes [false, false, false, false, false, false, false, false, false, true, true] 0 (by kernel_rfl) (by kernel_rfl) (by decide) (by kernel_rfl) hS (fun K hK => ?_)
    simp only [Mix.pick]
    repeat (go_big_quiet_step (fail))
    refine wpQuiet_nil (hK _ ?_)
    clear hK K
    refine MixH.done (by kernel_rfl) ?_
    have H2 : Hid (SxAt wB R s (.slice a N c) X ∧ Ch (fun q => q = R) w wB) := hS
    have d3 : wB.cell? ⟨R, 3, none⟩ = some (.int .i64 (P : Nat)) := H2.out.1.c3.trans HP3.out
    have f3 := H2.out.1.fz 3
    clear hS c0 c1 c2 c3
    by_cases hc : sB s P = 58
    · have q1 : (((sB s P : Nat) : Int) == 58) = true := by simp [hc]
      have q2 : (sB s P == 58) = true := by simp [hc]
      have HZ : Hid (btw s X = ({ X with p := P + 1 }, false)) := by show _ = _; unfold btw; rw [HP.out, HB.out, q2]; rfl
      have q3 : IntKind.i64.wrap ((P : Int) + 1) = (P : Int) + 1 := i64_s _ (by omega) (by have := HPS.out; have := HS.out; omega)
      obtain ⟨w3, hw3⟩ : ∃ w3, w3 = wB.setCell ⟨R, 3, none⟩ (.int .i64 (P + 1 : Nat)) := ⟨_, rfl⟩
      have H3 : Hid (SxAt w3 R s (.slice a N c) { X with p := P + 1 } ∧ Ch (fun q => q = R) w w3) := by rw [hw3]; exact ⟨H2.out.1.set 3 _ rfl rfl, H2.out.2.set ⟨R, 3, none⟩ _ rfl⟩
      have HW3 : Hid (wB.setCell ⟨R, 3, none⟩ (.int .i64 ((P : Int) + 1)) = w3) := by show _ = _; rw [hw3]; rfl
      clear hc hw3
      go_wp2_with fail
      go_ret
      rw [HW3.out]
      exact ⟨by rw [HZ.out]; rfl, by rw [HZ.out]; exact H3.out.1, H3.out.2⟩
    · have q1 : (((sB s P : Nat) : Int) == 58) = false := by simp; omega
      have q2 : (sB s P == 58) = false := by simp [hc]
      have HZ : Hid (btw s X = (X.fail 41 P, false)) := by show _ = _; unfold btw; rw [HP.out, HB.out, q2]; rfl
      clear hc
      go_wp2_with fail
      refine (fail_any R s (.slice a N c) X 41 P wB H2.out.1).mono ?_
      rintro e1 w3 ⟨rfl, k1, k2⟩
      have H3 : Hid (SxAt w3 R s (.slice a N c) (X.fail 41 P) ∧ Ch (fun q => q = R) w w3) := ⟨k1, H2.out.2.trans k2 (fun _ _ h => h)⟩
      clear k1 k2
      go_wp2_with fail
      go_ret
      exact ⟨by rw [HZ.out]; rfl, by rw [HZ.out]; exact H3.out.1, H3.out.2⟩
end Go.Proofs.YtclpeepnngegaaaDoor
