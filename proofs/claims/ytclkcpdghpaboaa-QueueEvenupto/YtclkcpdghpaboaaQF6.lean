/-
  Layer 18: a turn's serves, leave, come.
-/
import Derived.Test.YtclkcpdghpaboaaQF5
import Derived.Test.YtclkcpdghpaboaaHPair
namespace Go.Proofs.Ytclkcpdghpaboaa
open Go.RowKit

def csOf (ms : List CM) : List CL := ms.map CM.c
theorem csOf_len (ms : List CM) : (csOf ms).length = ms.length := List.length_map ..
theorem csOf_at {ms : List CM} {i : Nat} {m : CM} (h : ms[i]? = some m) : cAt (csOf ms) i = m.c := cAt_some (by unfold csOf; rw [List.getElem?_map, h]; rfl)
theorem csOf_set (ms : List CM) (i : Nat) (m : CM) : csOf (ms.set i m) = (csOf ms).set i m.c := by unfold csOf; rw [List.map_set]
/-- a turn in a box beside a queue -/
structure TQ (w : World) (P G : Nat) (ms : List CM) (t : TN) (B : Nat) (u : TN) : Prop where
  qa : QA w P G ms t
  tb : TrnAt w B u
theorem TQ.below {w w' : World} {P G : Nat} {ms : List CM} {t : TN} {B : Nat} {u : TN} (h : TQ w P G ms t B u) (b : Below w.heap.size w w') : TQ w' P G ms t B u := ⟨h.qa.below b, h.tb.below b⟩
theorem TQ.nb {w : World} {P G : Nat} {ms : List CM} {t : TN} {B : Nat} {u : TN} (h : TQ w P G ms t B u) : ¬ QB P G ms B := by have h1 := h.tb; unfold TrnAt at h1; exact h.qa.apart h1 (by decide) (by decide) (by decide)
theorem TQ.setd {w : World} {P G : Nat} {ms : List CM} {t : TN} {B : Nat} {u : TN} (h : TQ w P G ms t B u) (i : Nat) (hi : i < 8) (v : Int) : TQ (w.setCell ⟨B, 2 + i, none⟩ (.int .i64 v)) P G ms t B ⟨u.at', u.gv, up u.de i v⟩ ∧ Ch (fun q => q = B) w (w.setCell ⟨B, 2 + i, none⟩ (.int .i64 v)) := by
  have kk : Ch (fun q => q = B) w (w.setCell ⟨B, 2 + i, none⟩ (.int .i64 v)) := (Ch.refl (fun q => q = B) w).set ⟨B, 2 + i, none⟩ _ rfl
  exact ⟨⟨h.qa.ch kk (fun q hq e => h.nb (e ▸ hq)), h.tb.setd i hi v⟩, kk⟩
theorem TQ.set {w : World} {P G : Nat} {ms : List CM} {t : TN} {B : Nat} {u u' : TN} (h : TQ w P G ms t B u) (i : Nat) (v : Value) (he : (tnA u).setIfInBounds i v = tnA u') : TQ (w.setCell ⟨B, i, none⟩ v) P G ms t B u' ∧ Ch (fun q => q = B) w (w.setCell ⟨B, i, none⟩ v) := by
  have kk : Ch (fun q => q = B) w (w.setCell ⟨B, i, none⟩ v) := (Ch.refl (fun q => q = B) w).set ⟨B, i, none⟩ _ rfl
  exact ⟨⟨h.qa.ch kk (fun q hq e => h.nb (e ▸ hq)), h.tb.set i v he⟩, kk⟩
theorem rdy_hd {c : CL} (h : c.rdy = true) : ∃ x L, c.L = x :: L := by
  cases hL : c.L with
  | nil => exact absurd hL (rdy_ne h)
  | cons x L => exact ⟨x, L, rfl⟩
theorem held_hd' {c : CL} (h : c.held = true) : ∃ x L, c.L = x :: L := by
  cases hL : c.L with
  | nil => rw [held_em hL] at h; cases h
  | cons x L => exact ⟨x, L, rfl⟩
section
variable (w : World) (P G : Nat) (ms : List CM) (t : TN) (B : Nat) (u : TN) (h : TQ w P G ms t B u) (m : CM) (hi : ms[u.at']? = some m) (h8 : u.at' < 8)
include h hi h8
set_option maxHeartbeats 1600000 in
set_option maxRecDepth 100000 in
theorem serves_any (hq : 0 ≤ u.de u.at' ∧ u.de u.at' ≤ 131070 ∧ 0 ≤ m.c.li.q ∧ m.c.li.q ≤ 65535) : Calls Try.prog 60 #[.pointer (some ⟨B, 0, none⟩), .pointer (some ⟨G, u.at' * 10, none⟩)] w fun e w' => e = .returned (.bool (srv (csOf ms) u)) ∧ TQ w' P G ms t B (gr (csOf ms) u) ∧ Ch (fun q => q = B) w w' := by
  obtain ⟨i, hie⟩ : ∃ i, u.at' = i := ⟨_, rfl⟩
  rw [hie] at hi h8 ⊢
  have HI : Hid (u.at' = i ∧ ms[i]? = some m ∧ i < 8) := ⟨hie, hi, h8⟩
  have k0 : (0 : Int) ≤ (i : Int) := by omega
  have k1 : (i : Int) < 8 := by omega
  have k2 : ((i : Int)).toNat = i := by omega

  rw [hie] at hq
  have wq : IntKind.i64.wrap (u.de i + m.c.li.q) = u.de i + m.c.li.q := i64_s _ (by omega) (by omega)
  have HC : Hid (cAt (csOf ms) u.at' = m.c) := by show _ = _; rw [hie]; exact csOf_at hi
  have HT : Hid (TQ w P G ms t B u) := h
  have QR : Hid _ := ready_any w P G ms t h.qa i m hi
  obtain ⟨rb, hrb⟩ : ∃ rb, m.c.rdy = rb := ⟨_, rfl⟩
  have HRB : Hid (m.c.rdy = rb) := hrb
  rw [hrb] at QR
  clear h hi h8 hie hq hrb
  go_enter Try.func60, Try.ntmps60
  go_upto_region 1 with fail
  go_wp2_with fail
  refine Calls.mono QR.out ?_
  rintro e1 w1 ⟨rfl, b1⟩
  have HT1 : Hid (TQ w1 P G ms t B u ∧ Ch (fun q => q = B) w w1) := ⟨HT.out.below b1, Ch.ofBelow b1⟩
  clear b1 QR
  cases rb with
  | false =>
    have HG : Hid (gr (csOf ms) u = u ∧ srv (csOf ms) u = false) := by
      refine ⟨?_, ?_⟩
      · unfold gr; rw [HC.out, HRB.out]; rfl
      · unfold srv; rw [HC.out, HRB.out]; rfl
    go_wp2_with fail
    go_ret
    rw [HG.out.1, HG.out.2]
    exact ⟨rfl, HT1.out⟩
  | true =>
    obtain ⟨x, L, hL⟩ := rdy_hd HRB.out
    have HL : Hid (m.c.L = x :: L) := hL
    have HHD : Hid (hdS m.c.L = x.2) := by show _ = _; rw [hL]; rfl
    clear hL
    obtain ⟨g, hg⟩ : ∃ g, u.gv = g := ⟨_, rfl⟩
    have HGV : Hid (u.gv = g) := hg
    have c1 : w1.cell? ⟨B, 1, none⟩ = some (.bool g) := (HT1.out.1.tb.cell 1).trans (by rw [← hg]; rfl)
    have z1 := HT1.out.1.tb.fz 1
    have c0 : w1.cell? ⟨B, 0, none⟩ = some (.int .i64 (i : Int)) := (HT1.out.1.tb.cell 0).trans (by rw [← HI.out.1]; rfl)
    have cd : w1.cell? ⟨B, 2 + i, none⟩ = some (.int .i64 (u.de i)) := HT1.out.1.tb.dc i HI.out.2.2
    have zd := HT1.out.1.tb.fz (2 + i)
    have zd' : w1.drew.frozen? ⟨B, 2 + i, none⟩ = false := zd
    have cq : w1.cell? ⟨G, i * 10, none⟩ = some (.int .i64 m.c.li.q) := HT1.out.1.qa.cell HI.out.2.1 0 rfl
    clear hg
    cases g with
    | false =>
      have HG : Hid (gr (csOf ms) u = ⟨i, true, up u.de i (u.de i + m.c.li.q)⟩) := by
        show _ = _
        unfold gr
        rw [HC.out, HRB.out, HGV.out, HI.out.1]
        rfl
      obtain ⟨w2, hw2⟩ : ∃ w2, w2 = (w1.setCell ⟨B, 2 + i, none⟩ (.int .i64 (u.de i + m.c.li.q))).drew := ⟨_, rfl⟩
      have HW2 : Hid ((w1.setCell ⟨B, 2 + i, none⟩ (.int .i64 (u.de i + m.c.li.q))).drew = w2) := hw2.symm
      have HT2 : Hid (TQ w2 P G ms t B ⟨u.at', u.gv, up u.de i (u.de i + m.c.li.q)⟩ ∧ Ch (fun q => q = B) w w2) := by
        have s1 := HT1.out.1.setd i HI.out.2.2 (u.de i + m.c.li.q)
        rw [hw2]
        exact ⟨s1.1.below (Below.refl _ _).drew, (HT1.out.2.trans s1.2 (fun _ _ e => e)).drew⟩
      have d1 : w2.cell? ⟨B, 1, none⟩ = some (.bool false) := (HT2.out.1.tb.cell 1).trans (by rw [← HGV.out]; rfl)
      have y1 := HT2.out.1.tb.fz 1
      obtain ⟨w3, hw3⟩ : ∃ w3, w3 = w2.setCell ⟨B, 1, none⟩ (.bool true) := ⟨_, rfl⟩
      have HW3 : Hid (w2.setCell ⟨B, 1, none⟩ (.bool true) = w3) := hw3.symm
      have HT3 : Hid (TQ w3 P G ms t B ⟨i, true, up u.de i (u.de i + m.c.li.q)⟩ ∧ Ch (fun q => q = B) w w3) := by
        have s1 := HT2.out.1.set 1 (.bool true) (u' := ⟨i, true, up u.de i (u.de i + m.c.li.q)⟩) (by rw [HI.out.1]; rfl)
        rw [hw3]
        exact ⟨s1.1, HT2.out.2.trans s1.2 (fun _ _ e => e)⟩
      clear hw2 hw3
      go_upto_region 4 with fail
      go_region
      rw [HW2.out]
      go_upto_region 6 with fail
      rw [HW3.out]
      clear c1 z1 c0 cd zd zd' cq d1 y1
      obtain ⟨d, hd⟩ : ∃ d, (u.de i + m.c.li.q) = d := ⟨_, rfl⟩
      have HD : Hid ((u.de i + m.c.li.q) = d) := hd
      clear hd
      have HSV : Hid (srv (csOf ms) u = decide (x.2 ≤ d)) := by
        show _ = _
        unfold srv
        rw [HC.out, HRB.out, HHD.out, HG.out, Bool.true_and, ← HD.out]
        show decide (x.2 ≤ up u.de i (u.de i + m.c.li.q) u.at') = _
        rw [HI.out.1, up_same]
      refine MixH.start (fun A => TQ A P G ms t B ⟨i, true, up u.de i (u.de i + m.c.li.q)⟩) (by kernel_rfl) ?_
      obtain ⟨wA, hwA⟩ : ∃ W_, W_ = w3.drew := ⟨_, rfl⟩
      have bdr : Below w3.heap.size w3 wA := by rw [hwA]; exact (Below.refl _ _).drew
      have hS : TQ wA P G ms t B ⟨i, true, up u.de i (u.de i + m.c.li.q)⟩ := HT3.out.1.below bdr
      have HA : Hid (Ch (fun q => q = B) w wA) := HT3.out.2.trans (Ch.ofBelow (S := fun _ => False) bdr) (fun _ _ e => e.elim)
      have QH : Hid _ := head_any wA P G ms t hS.qa i m HI.out.2.1 x L HL.out
      rw [← hwA]
      clear hwA bdr
      refine MixH.takes [true, true, true, false, false, true, true, true, true, false, true, true] 7 (by kernel_rfl) (by kernel_rfl) (by decide) (by kernel_rfl) hS (fun K hK => ?_)
      simp only [Mix.pick]
      repeat (go_big_quiet_step (fail))
      refine wpQuiet_nil (hK _ ?_)
      clear hK K
      refine MixH.take 6 9 _ (.int .i64 (i : Int)) rfl (by kernel_rfl) (by kernel_rfl) (by kernel_rfl) (by kernel_rfl) (yields_int (.tmp 42) rfl ⟨B, 0, none⟩ (.int .i64 (i : Int)) rfl rfl (fun A hA => (hA.tb.cell 0).trans (by first | rfl | (rw [← HI.out.1]; rfl)))) hS (fun a' ha => ?_)
      simp only [Act.put, List.setIfInBounds_toArray, List.set_cons_succ, List.set_cons_zero] at ha
      subst ha
      refine MixH.takes [false, false, false, false, false, false, false, false, false, false, false, false, true] 5 (by kernel_rfl) (by kernel_rfl) (by decide) (by kernel_rfl) hS (fun K hK => ?_)
      simp only [Mix.pick]
      repeat (go_big_quiet_step (fail))
      refine wpQuiet_nil (hK _ ?_)
      clear hK K
      refine MixH.take 4 13 _ (.int .i64 d) rfl (by kernel_rfl) (by kernel_rfl) (by kernel_rfl) (by kernel_rfl) (yields_int (.tmp 46) rfl ⟨B, 2 + i, none⟩ (.int .i64 d) rfl rfl (fun A hA => (hA.tb.dc i HI.out.2.2).trans (by rw [← HD.out]; show some (Value.int .i64 (up u.de i (u.de i + m.c.li.q) i)) = _; rw [up_same]))) hS (fun a' ha => ?_)
      simp only [Act.put, List.setIfInBounds_toArray, List.set_cons_succ, List.set_cons_zero] at ha
      subst ha
      refine MixH.one [false, false, false, true] 3 3 _ rfl rfl (by kernel_rfl) (by kernel_rfl) (fun K hK => ?_)
      simp only [Mix.pick]
      go_wp2_with fail
      refine Calls.mono (QH.out) ?_
      rintro e4 w4 ⟨rfl, b4⟩
      replace hS : TQ w4 P G ms t B ⟨i, true, up u.de i (u.de i + m.c.li.q)⟩ := hS.below b4
      have HZ : Hid (TQ w4 P G ms t B ⟨i, true, up u.de i (u.de i + m.c.li.q)⟩ ∧ Ch (fun q => q = B) w w4) := ⟨hS, HA.out.trans (Ch.ofBelow (S := fun _ => False) b4) (fun _ _ e => e.elim)⟩
      clear b4
      go_wp2_with fail
      refine ⟨rfl, hK _ _ hS ?_⟩
      clear hK K
      refine MixH.take 2 4 _ (.int .i64 x.2) rfl (by kernel_rfl) (by kernel_rfl) (by kernel_rfl) (by kernel_rfl) (yields_f1 (.tmp 37) rfl x rfl rfl) hS (fun a' ha => ?_)
      simp only [Act.put, List.setIfInBounds_toArray, List.set_cons_succ, List.set_cons_zero] at ha
      subst ha
      refine MixH.takes [false, false, false, false, false, false, false, false, false, false, false, false, false, false, true, true] 0 (by kernel_rfl) (by kernel_rfl) (by decide) (by kernel_rfl) hS (fun K hK => ?_)
      simp only [Mix.pick]
      repeat (go_big_quiet_step (fail))
      refine wpQuiet_nil (hK _ ?_)
      clear hK K
      refine MixH.done (by kernel_rfl) ?_
      clear hS QH
      go_wp2_with fail
      go_ret
      rw [HSV.out, HG.out]
      exact ⟨rfl, HZ.out⟩
    | true =>
      have HG : Hid (gr (csOf ms) u = u) := by
        show _ = _
        unfold gr
        rw [HC.out, HRB.out, HGV.out]
        rfl
      go_upto_region 6 with fail
      clear c1 z1 c0 cd zd zd' cq
      obtain ⟨d, hd⟩ : ∃ d, (u.de i) = d := ⟨_, rfl⟩
      have HD : Hid ((u.de i) = d) := hd
      clear hd
      have HSV : Hid (srv (csOf ms) u = decide (x.2 ≤ d)) := by
        show _ = _
        unfold srv
        rw [HC.out, HRB.out, HHD.out, HG.out, Bool.true_and, ← HD.out]
        rw [HI.out.1]
      refine MixH.start (fun A => TQ A P G ms t B u) (by kernel_rfl) ?_
      obtain ⟨wA, hwA⟩ : ∃ W_, W_ = w1.drew := ⟨_, rfl⟩
      have bdr : Below w1.heap.size w1 wA := by rw [hwA]; exact (Below.refl _ _).drew
      have hS : TQ wA P G ms t B u := HT1.out.1.below bdr
      have HA : Hid (Ch (fun q => q = B) w wA) := HT1.out.2.trans (Ch.ofBelow (S := fun _ => False) bdr) (fun _ _ e => e.elim)
      have QH : Hid _ := head_any wA P G ms t hS.qa i m HI.out.2.1 x L HL.out
      rw [← hwA]
      clear hwA bdr
      refine MixH.takes [true, true, true, false, false, true, true, true, true, false, true, true] 7 (by kernel_rfl) (by kernel_rfl) (by decide) (by kernel_rfl) hS (fun K hK => ?_)
      simp only [Mix.pick]
      repeat (go_big_quiet_step (fail))
      refine wpQuiet_nil (hK _ ?_)
      clear hK K
      refine MixH.take 6 9 _ (.int .i64 (i : Int)) rfl (by kernel_rfl) (by kernel_rfl) (by kernel_rfl) (by kernel_rfl) (yields_int (.tmp 42) rfl ⟨B, 0, none⟩ (.int .i64 (i : Int)) rfl rfl (fun A hA => (hA.tb.cell 0).trans (by first | rfl | (rw [← HI.out.1]; rfl)))) hS (fun a' ha => ?_)
      simp only [Act.put, List.setIfInBounds_toArray, List.set_cons_succ, List.set_cons_zero] at ha
      subst ha
      refine MixH.takes [false, false, false, false, false, false, false, false, false, false, false, false, true] 5 (by kernel_rfl) (by kernel_rfl) (by decide) (by kernel_rfl) hS (fun K hK => ?_)
      simp only [Mix.pick]
      repeat (go_big_quiet_step (fail))
      refine wpQuiet_nil (hK _ ?_)
      clear hK K
      refine MixH.take 4 13 _ (.int .i64 d) rfl (by kernel_rfl) (by kernel_rfl) (by kernel_rfl) (by kernel_rfl) (yields_int (.tmp 46) rfl ⟨B, 2 + i, none⟩ (.int .i64 d) rfl rfl (fun A hA => (hA.tb.dc i HI.out.2.2).trans (by rw [← HD.out]))) hS (fun a' ha => ?_)
      simp only [Act.put, List.setIfInBounds_toArray, List.set_cons_succ, List.set_cons_zero] at ha
      subst ha
      refine MixH.one [false, false, false, true] 3 3 _ rfl rfl (by kernel_rfl) (by kernel_rfl) (fun K hK => ?_)
      simp only [Mix.pick]
      go_wp2_with fail
      refine Calls.mono (QH.out) ?_
      rintro e4 w4 ⟨rfl, b4⟩
      replace hS : TQ w4 P G ms t B u := hS.below b4
      have HZ : Hid (TQ w4 P G ms t B u ∧ Ch (fun q => q = B) w w4) := ⟨hS, HA.out.trans (Ch.ofBelow (S := fun _ => False) b4) (fun _ _ e => e.elim)⟩
      clear b4
      go_wp2_with fail
      refine ⟨rfl, hK _ _ hS ?_⟩
      clear hK K
      refine MixH.take 2 4 _ (.int .i64 x.2) rfl (by kernel_rfl) (by kernel_rfl) (by kernel_rfl) (by kernel_rfl) (yields_f1 (.tmp 37) rfl x rfl rfl) hS (fun a' ha => ?_)
      simp only [Act.put, List.setIfInBounds_toArray, List.set_cons_succ, List.set_cons_zero] at ha
      subst ha
      refine MixH.takes [false, false, false, false, false, false, false, false, false, false, false, false, false, false, true, true] 0 (by kernel_rfl) (by kernel_rfl) (by decide) (by kernel_rfl) hS (fun K hK => ?_)
      simp only [Mix.pick]
      repeat (go_big_quiet_step (fail))
      refine wpQuiet_nil (hK _ ?_)
      clear hK K
      refine MixH.done (by kernel_rfl) ?_
      clear hS QH
      go_wp2_with fail
      go_ret
      rw [HSV.out, HG.out]
      exact ⟨rfl, HZ.out⟩
set_option maxHeartbeats 1600000 in
set_option maxRecDepth 100000 in
theorem leaveT_any  : Calls Try.prog 61 #[.pointer (some ⟨B, 0, none⟩), .pointer (some ⟨G, u.at' * 10, none⟩)] w fun e w' => e = .returned (.tuple #[]) ∧ TQ w' P G ms t B (lvT (csOf ms) u) ∧ Ch (fun q => q = B) w w' := by
  obtain ⟨i, hie⟩ : ∃ i, u.at' = i := ⟨_, rfl⟩
  rw [hie] at hi h8 ⊢
  have HI : Hid (u.at' = i ∧ ms[i]? = some m ∧ i < 8) := ⟨hie, hi, h8⟩
  have k0 : (0 : Int) ≤ (i : Int) := by omega
  have k1 : (i : Int) < 8 := by omega
  have k2 : ((i : Int)).toNat = i := by omega

  have HC : Hid (cAt (csOf ms) u.at' = m.c) := by show _ = _; rw [hie]; exact csOf_at hi
  have HT : Hid (TQ w P G ms t B u) := h
  have QR : Hid _ := heldUp_any w P G ms t h.qa i m hi
  obtain ⟨rb, hrb⟩ : ∃ rb, m.c.held = rb := ⟨_, rfl⟩
  have HRB : Hid (m.c.held = rb) := hrb
  rw [hrb] at QR
  clear h hi h8 hie hrb
  go_enter Try.func61, Try.ntmps61
  go_wp2_with fail
  refine Calls.mono QR.out ?_
  rintro e1 w1 ⟨rfl, b1⟩
  have HT1 : Hid (TQ w1 P G ms t B u ∧ Ch (fun q => q = B) w w1) := ⟨HT.out.below b1, Ch.ofBelow b1⟩
  clear b1 QR
  cases rb with
  | false =>
    have HG : Hid (lvT (csOf ms) u = u) := by show _ = _; unfold lvT; rw [HC.out, HRB.out]; rfl
    go_wp2_with fail
    go_end0
    rw [HG.out]
    exact ⟨rfl, HT1.out⟩
  | true =>
    obtain ⟨x, L, hL⟩ := held_hd' HRB.out
    have HL : Hid (m.c.L = x :: L) := hL
    obtain ⟨v, hv⟩ : ∃ v, v = min (u.de i) x.2 := ⟨_, rfl⟩
    have HV : Hid (v = min (u.de i) x.2) := hv
    have HG : Hid (lvT (csOf ms) u = ⟨i, u.gv, up u.de i v⟩) := by
      show _ = _
      unfold lvT
      rw [HC.out, HRB.out, HI.out.1, hL, hv]
      rfl
    clear hL hv
    go_upto_region 1 with fail
    refine MixH.start (fun A => QA A P G ms t ∧ A.cell? ⟨B, 0, none⟩ = some (.int .i64 (i : Int))) (by kernel_rfl) ?_
    obtain ⟨wA, hwA⟩ : ∃ W_, W_ = w1.drew := ⟨_, rfl⟩
    have bdr : Below w1.heap.size w1 wA := by rw [hwA]; exact (Below.refl _ _).drew
    have hS : QA wA P G ms t ∧ wA.cell? ⟨B, 0, none⟩ = some (.int .i64 (i : Int)) := ⟨HT1.out.1.qa.below bdr, ((HT1.out.1.tb.below bdr).cell 0).trans (by rw [← HI.out.1]; rfl)⟩
    have HZ0 : Hid (TQ wA P G ms t B u ∧ Ch (fun q => q = B) w wA) := ⟨HT1.out.1.below bdr, HT1.out.2.trans (Ch.ofBelow (S := fun _ => False) bdr) (fun _ _ e => e.elim)⟩
    have QH : Hid _ := head_any wA P G ms t hS.1 i m HI.out.2.1 x L HL.out
    rw [← hwA]
    clear hwA bdr
    refine MixH.takes [true, true, true, true, false, true, true, true, true, false, true, true, false, false, true, true, true, false, false, false, true, true] 9 (by kernel_rfl) (by kernel_rfl) (by decide) (by kernel_rfl) hS (fun K hK => ?_)
    simp only [Mix.pick]
    repeat (go_big_quiet_step (fail))
    refine wpQuiet_nil (hK _ ?_)
    clear hK K
    refine MixH.take 8 4 _ (.int .i64 (i : Int)) rfl (by kernel_rfl) (by kernel_rfl) (by kernel_rfl) (by kernel_rfl) (yields_int (.tmp 9) rfl ⟨B, 0, none⟩ (.int .i64 (i : Int)) rfl rfl (fun A hA => hA.2)) hS (fun a' ha => ?_)
    simp only [Act.put, List.setIfInBounds_toArray, List.set_cons_succ, List.set_cons_zero] at ha
    subst ha
    refine MixH.take 7 9 _ (.int .i64 (i : Int)) rfl (by kernel_rfl) (by kernel_rfl) (by kernel_rfl) (by kernel_rfl) (yields_int (.tmp 14) rfl ⟨B, 0, none⟩ (.int .i64 (i : Int)) rfl rfl (fun A hA => hA.2)) hS (fun a' ha => ?_)
    simp only [Act.put, List.setIfInBounds_toArray, List.set_cons_succ, List.set_cons_zero] at ha
    subst ha
    refine MixH.takes [false, false, false, false, false, false, false, false, false, false, false, false, true] 6 (by kernel_rfl) (by kernel_rfl) (by decide) (by kernel_rfl) hS (fun K hK => ?_)
    simp only [Mix.pick]
    repeat (go_big_quiet_step (fail))
    refine wpQuiet_nil (hK _ ?_)
    clear hK K
    refine MixH.pair [false, false, false, false, false, false, false, false, false, false, false, false, false, true] [false, false, false, false, false, false, false, false, false, false, false, false, false, false, false, false, false, true] 5 13 17 _ _ rfl rfl rfl rfl (by kernel_rfl) (by kernel_rfl) (fun K hK => ?_) (fun K hK => ?_)
    · simp only [Mix.pick]
      have cd : wA.cell? ⟨B, 2 + i, none⟩ = some (.int .i64 (u.de i)) := HZ0.out.1.tb.dc i HI.out.2.2
      go_wp2_with fail
      clear cd
      refine ⟨rfl, hK _ _ hS ?_⟩
      clear hK K
      refine MixH.one [false, false, false, false, false, false, false, false, false, false, false, false, false, false, false, false, false, true] 4 17 _ rfl rfl (by kernel_rfl) (by kernel_rfl) (fun K hK => ?_)
      simp only [Mix.pick]
      go_wp2_with fail
      refine Calls.mono (QH.out) ?_
      rintro e4 w4 ⟨rfl, b4⟩
      have HZ4 : Hid (TQ w4 P G ms t B u ∧ Ch (fun q => q = B) w w4) := ⟨HZ0.out.1.below b4, HZ0.out.2.trans (Ch.ofBelow (S := fun _ => False) b4) (fun _ _ e => e.elim)⟩
      replace hS : QA w4 P G ms t ∧ w4.cell? ⟨B, 0, none⟩ = some (.int .i64 (i : Int)) := ⟨HZ4.out.1.qa, (HZ4.out.1.tb.cell 0).trans (by rw [← HI.out.1]; rfl)⟩
      clear b4
      go_wp2_with fail
      refine ⟨rfl, hK _ _ hS ?_⟩
      clear hK K
      refine MixH.take 3 18 _ (.int .i64 x.2) rfl (by kernel_rfl) (by kernel_rfl) (by kernel_rfl) (by kernel_rfl) (yields_f1 (.tmp 23) rfl x rfl rfl) hS (fun a' ha => ?_)
      simp only [Act.put, List.setIfInBounds_toArray, List.set_cons_succ, List.set_cons_zero] at ha
      subst ha
      refine MixH.take 2 19 _ (.int .i64 v) rfl (by kernel_rfl) (by kernel_rfl) (by kernel_rfl) (by kernel_rfl) (yields_min (.tmp 19) (.tmp 24) _ rfl (u.de i) x.2 v HV.out rfl rfl rfl) hS (fun a' ha => ?_)
      simp only [Act.put, List.setIfInBounds_toArray, List.set_cons_succ, List.set_cons_zero] at ha
      subst ha
      refine MixH.takes [false, false, false, false, false, false, false, false, false, false, false, false, false, false, false, false, false, false, false, false, false, false, true] 1 (by kernel_rfl) (by kernel_rfl) (by decide) (by kernel_rfl) hS (fun K hK => ?_)
      simp only [Mix.pick]
      repeat (go_big_quiet_step (fail))
      refine wpQuiet_nil (hK _ ?_)
      clear hK K
      refine MixH.one [false, false, false, false, false, false, false, false, false, false, false, false, false, false, false, false, false, false, false, false, false, false, false, true] 0 23 _ rfl rfl (by kernel_rfl) (by kernel_rfl) (fun K hK => ?_)
      simp only [Mix.pick]
      have cd : w4.cell? ⟨B, 2 + i, none⟩ = some (.int .i64 (u.de i)) := HZ4.out.1.tb.dc i HI.out.2.2
      have zd := HZ4.out.1.tb.fz (2 + i)
      have HF : Hid (TQ (w4.setCell ⟨B, 2 + i, none⟩ (.int .i64 v)) P G ms t B ⟨i, u.gv, up u.de i v⟩ ∧ Ch (fun q => q = B) w (w4.setCell ⟨B, 2 + i, none⟩ (.int .i64 v))) := by
        have s1 := HZ4.out.1.setd i HI.out.2.2 v
        rw [HI.out.1] at s1
        exact ⟨s1.1, HZ4.out.2.trans s1.2 (fun _ _ e => e)⟩
      replace hS : QA (w4.setCell ⟨B, 2 + i, none⟩ (.int .i64 v)) P G ms t ∧ (w4.setCell ⟨B, 2 + i, none⟩ (.int .i64 v)).cell? ⟨B, 0, none⟩ = some (.int .i64 (i : Int)) := ⟨HF.out.1.qa, HF.out.1.tb.cell 0⟩
      go_wp2_with fail
      clear cd zd
      refine ⟨rfl, hK _ _ hS ?_⟩
      clear hK K
      refine MixH.done (by kernel_rfl) ?_
      clear hS QH
      go_wp2_with fail
      go_end0
      rw [HG.out]
      exact ⟨rfl, HF.out⟩
    · simp only [Mix.pick]
      go_wp2_with fail
      refine Calls.mono (QH.out) ?_
      rintro e4 w4 ⟨rfl, b4⟩
      have HZ4 : Hid (TQ w4 P G ms t B u ∧ Ch (fun q => q = B) w w4) := ⟨HZ0.out.1.below b4, HZ0.out.2.trans (Ch.ofBelow (S := fun _ => False) b4) (fun _ _ e => e.elim)⟩
      replace hS : QA w4 P G ms t ∧ w4.cell? ⟨B, 0, none⟩ = some (.int .i64 (i : Int)) := ⟨HZ4.out.1.qa, (HZ4.out.1.tb.cell 0).trans (by rw [← HI.out.1]; rfl)⟩
      clear b4
      go_wp2_with fail
      refine ⟨rfl, hK _ _ hS ?_⟩
      clear hK K
      refine MixH.take 4 18 _ (.int .i64 x.2) rfl (by kernel_rfl) (by kernel_rfl) (by kernel_rfl) (by kernel_rfl) (yields_f1 (.tmp 23) rfl x rfl rfl) hS (fun a' ha => ?_)
      simp only [Act.put, List.setIfInBounds_toArray, List.set_cons_succ, List.set_cons_zero] at ha
      subst ha
      refine MixH.one [false, false, false, false, false, false, false, false, false, false, false, false, false, true] 3 13 _ rfl rfl (by kernel_rfl) (by kernel_rfl) (fun K hK => ?_)
      simp only [Mix.pick]
      have cd : w4.cell? ⟨B, 2 + i, none⟩ = some (.int .i64 (u.de i)) := HZ4.out.1.tb.dc i HI.out.2.2
      go_wp2_with fail
      clear cd
      refine ⟨rfl, hK _ _ hS ?_⟩
      clear hK K
      refine MixH.take 2 19 _ (.int .i64 v) rfl (by kernel_rfl) (by kernel_rfl) (by kernel_rfl) (by kernel_rfl) (yields_min (.tmp 19) (.tmp 24) _ rfl (u.de i) x.2 v HV.out rfl rfl rfl) hS (fun a' ha => ?_)
      simp only [Act.put, List.setIfInBounds_toArray, List.set_cons_succ, List.set_cons_zero] at ha
      subst ha
      refine MixH.takes [false, false, false, false, false, false, false, false, false, false, false, false, false, false, false, false, false, false, false, false, false, false, true] 1 (by kernel_rfl) (by kernel_rfl) (by decide) (by kernel_rfl) hS (fun K hK => ?_)
      simp only [Mix.pick]
      repeat (go_big_quiet_step (fail))
      refine wpQuiet_nil (hK _ ?_)
      clear hK K
      refine MixH.one [false, false, false, false, false, false, false, false, false, false, false, false, false, false, false, false, false, false, false, false, false, false, false, true] 0 23 _ rfl rfl (by kernel_rfl) (by kernel_rfl) (fun K hK => ?_)
      simp only [Mix.pick]
      have cd : w4.cell? ⟨B, 2 + i, none⟩ = some (.int .i64 (u.de i)) := HZ4.out.1.tb.dc i HI.out.2.2
      have zd := HZ4.out.1.tb.fz (2 + i)
      have HF : Hid (TQ (w4.setCell ⟨B, 2 + i, none⟩ (.int .i64 v)) P G ms t B ⟨i, u.gv, up u.de i v⟩ ∧ Ch (fun q => q = B) w (w4.setCell ⟨B, 2 + i, none⟩ (.int .i64 v))) := by
        have s1 := HZ4.out.1.setd i HI.out.2.2 v
        rw [HI.out.1] at s1
        exact ⟨s1.1, HZ4.out.2.trans s1.2 (fun _ _ e => e)⟩
      replace hS : QA (w4.setCell ⟨B, 2 + i, none⟩ (.int .i64 v)) P G ms t ∧ (w4.setCell ⟨B, 2 + i, none⟩ (.int .i64 v)).cell? ⟨B, 0, none⟩ = some (.int .i64 (i : Int)) := ⟨HF.out.1.qa, HF.out.1.tb.cell 0⟩
      go_wp2_with fail
      clear cd zd
      refine ⟨rfl, hK _ _ hS ?_⟩
      clear hK K
      refine MixH.done (by kernel_rfl) ?_
      clear hS QH
      go_wp2_with fail
      go_end0
      rw [HG.out]
      exact ⟨rfl, HF.out⟩
omit hi h8 in
set_option maxHeartbeats 1600000 in
set_option maxRecDepth 100000 in
theorem come_any (a : Nat) : Calls Try.prog 62 #[.pointer (some ⟨B, 0, none⟩), .int .i64 (a : Int)] w fun e w' => e = .returned (.tuple #[]) ∧ TQ w' P G ms t B ⟨a, false, u.de⟩ ∧ Ch (fun q => q = B) w w' := by
  have s1 := h.set 0 (.int .i64 (a : Int)) (u' := ⟨a, u.gv, u.de⟩) rfl
  have s2 := s1.1.set 1 (.bool false) (u' := ⟨a, false, u.de⟩) rfl
  have HF : Hid (TQ ((w.setCell ⟨B, 0, none⟩ (.int .i64 (a : Int))).setCell ⟨B, 1, none⟩ (.bool false)) P G ms t B ⟨a, false, u.de⟩ ∧ Ch (fun q => q = B) w ((w.setCell ⟨B, 0, none⟩ (.int .i64 (a : Int))).setCell ⟨B, 1, none⟩ (.bool false))) := ⟨s2.1, s1.2.trans s2.2 (fun _ _ e => e)⟩
  have c0 := h.tb.cell 0
  have z0 := h.tb.fz 0
  have c1 := s1.1.tb.cell 1
  have z1 := s1.1.tb.fz 1
  have c0' : w.cell? ⟨B, 0, none⟩ = some (.int .i64 (u.at' : Int)) := c0
  have c1' : (w.setCell ⟨B, 0, none⟩ (.int .i64 (a : Int))).cell? ⟨B, 1, none⟩ = some (.bool u.gv) := c1
  clear h s1 s2 c0 c1
  go_enter Try.func62, Try.ntmps62
  go_wp2
  go_end0
  exact ⟨rfl, HF.out⟩
end
end Go.Proofs.Ytclkcpdghpaboaa
