/-
  Package hole: a piece's end, and why a piece is refused.
-/
import Derived.Test.YtcoaghcmbhogjaaHYld
import Derived.Deep.DeepCutAuto
namespace Go.Proofs.Ytcoaghcmbhogjaa
open Go.RowKit Go.Maps
namespace H11

theorem drew_below {a : Nat} {w w' : World} (h : Below a w w') : Below a w w'.drew := ⟨h.os, h.tape, h.output, h.size, h.block⟩

set_option maxRecDepth 100000 in
set_option maxHeartbeats 800000 in
theorem end_any (w : World) (o n : Int) (m : Bool) (ho : 0 ≤ o ∧ o ≤ 65535) (hn : 0 ≤ n ∧ n ≤ 65535) :
    Calls Try.prog 33 #[kv o n m] w fun e w' => e = .returned (.int .i64 (o + n)) ∧ Below w.heap.size w w' := by
  have w1 : IntKind.i64.wrap (o + n) = o + n := by rw [IntKind.wrap_i64]; omega
  unfold kv
  clear ho hn
  go_enter Try.func33, Try.ntmps33
  go_wp2
  go_ret
  refine ⟨by first | rfl | (rw [w1]) | simp [w1], ?_⟩
  exact (Below.refl _ _).alloc (Nat.le_refl _) _

/-- the end against the known one, or against what is held -/
def rfE (s : HS) (o n : Nat) (more : Bool) : Int :=
  if 0 < s.en ∧ more = true ∧ s.en < o + n then 113
  else if 0 < s.en ∧ more = false ∧ o + n ≠ s.en then 114
  else if s.en = 0 ∧ more = false ∧ o + n < s.bs.length then 114
  else 0

set_option maxRecDepth 100000 in
set_option maxHeartbeats 4000000 in
theorem refuseEnd_any (w : World) (H : Nat) (s : HS) (v : HV) (h : HAt w H s v) (o n : Nat) (more : Bool) (ho : o ≤ 65535) (hn : n ≤ 65535) :
    Calls Try.prog 48 #[.pointer (some ⟨H, 0, none⟩), kv o n more] w fun e w' => e = .returned (.int .i64 (rfE s o n more)) ∧ Below w.heap.size w w' := by
  obtain ⟨P, hP⟩ : ∃ P : Array Value, P = #[.int .i64 (o : Int), .int .i64 (n : Int), .bool more] := ⟨_, rfl⟩
  have hkv : kv o n more = .agg P := by rw [hP]; rfl
  have QE : Hid (∀ W : World, Calls Try.prog 33 #[.agg P] W fun e w' => e = .returned (.int .i64 ((o : Int) + (n : Int))) ∧ Below W.heap.size W w') := by
    intro W
    rw [← hkv]
    exact end_any W o n more (by omega) (by omega)
  obtain ⟨ba, bc, hbv⟩ := owns_shape h.bo
  obtain ⟨L, hL⟩ : ∃ L, L = s.bs.length := ⟨_, rfl⟩
  rw [← hL] at hbv
  have HBV : Hid (v.bv = .slice ba L bc) := hbv
  obtain ⟨B, hB⟩ : ∃ B, B = w.heap.size := ⟨_, rfl⟩
  obtain ⟨W, hW⟩ : ∃ W, W = w.alloc (.cells #[.int .i64 (o : Int), .int .i64 (n : Int), .bool more] 78) := ⟨_, rfl⟩
  have hb : Below w.heap.size w W := by rw [hW]; exact (Below.refl _ _).alloc (Nat.le_refl _) _
  have hS : HAt W H s v ∧ PcAt W B P := by
    refine ⟨h.below hb, ?_⟩
    rw [hW, hB, hP]
    exact PcAt_new _ _
  have HP3 : Hid (P.size = 3) := by rw [hP]; rfl
  have HP : Hid (P = #[.int .i64 (o : Int), .int .i64 (n : Int), .bool more]) := hP
  have HWW : Hid (w.alloc (.cells #[.int .i64 (o : Int), .int .i64 (n : Int), .bool more] 78) = W) := hW.symm
  have HBB : Hid (w.heap.size = B) := hB.symm
  have HLL : Hid (L = s.bs.length) := hL
  have c1 := hS.1.c1
  unfold kv
  clear hkv hP hW hB hbv hL h
  obtain ⟨E, hE⟩ : ∃ E, E = rfE s o n more := ⟨_, rfl⟩
  rw [← hE]
  have HE : Hid (E = rfE s o n more) := hE
  clear hE
  by_cases hk : 0 < s.en
  · have HK : Hid (0 < s.en) := hk
    have hkb : (0 : Int) < (s.en : Int) := by omega
    have HKI : Hid (decide ((0 : Int) < (s.en : Int)) = true) := decide_eq_true hkb
    have HKD : Hid (decide (0 < s.en) = true) := decide_eq_true hk
    clear hk
    cases more
    · by_cases hx : o + n ≠ s.en
      · have HR : Hid (E = 114) := by show E = 114; rw [HE.out]; unfold rfE; rw [if_neg (by simp), if_pos ⟨HK.out, rfl, hx⟩]
        have hd : (((o : Int) + (n : Int)) != (s.en : Int)) = true := by rw [bne_iff_ne]; omega
        clear HE hx
        go_enter Try.func48, Try.ntmps48
        go_upto_region 1 with fail
        rw [HWW.out, HBB.out]
        go_upto_region 2 with fail
        first | rw [HKI.out] | rw [HKD.out]
        refine MixH.start (fun A => HAt A H s v ∧ PcAt A B P) (by kernel_rfl) ?_
        obtain ⟨wA2, hwA2⟩ : ∃ wA2, wA2 = W.drew := ⟨_, rfl⟩
        replace hS : HAt wA2 H s v ∧ PcAt wA2 B P := by rw [hwA2]; exact ⟨hS.1.ch (Ch.refl (fun _ => False) _).drew (fun _ _ => id), hS.2.ch (Ch.refl (fun _ => False) _).drew id⟩
        replace hb : Below w.heap.size w wA2 := by rw [hwA2]; exact drew_below hb
        rw [← hwA2]
        clear hwA2
        refine MixH.takes [true, true, true] 12 (by kernel_rfl) (by kernel_rfl) (by decide) (by kernel_rfl) hS (fun K hK => ?_)
        simp only [Mix.pick]
        repeat (go_big_quiet_step (fail))
        refine wpQuiet_nil (hK _ ?_)
        clear hK K
        refine MixH.take 11 3 _ (.bool false) rfl (by kernel_rfl) (by kernel_rfl) (by kernel_rfl) (by kernel_rfl) (yields_bool (.tmp 14) rfl ⟨B, 2, none⟩ _ rfl rfl (fun A hA => (hA.2.cell 2).trans (by rw [HP.out]; rfl))) hS (fun a' ha => ?_)
        simp only [Act.put, List.setIfInBounds_toArray, List.set_cons_succ, List.set_cons_zero] at ha
        subst ha
        refine MixH.takes [false, false, false, false, true, true] 9 (by kernel_rfl) (by kernel_rfl) (by decide) (by kernel_rfl) hS (fun K hK => ?_)
        simp only [Mix.pick]
        repeat (go_big_quiet_step (fail))
        refine wpQuiet_nil (hK _ ?_)
        clear hK K
        refine MixH.take 8 6 _ (undef) rfl (by kernel_rfl) (by kernel_rfl) (by kernel_rfl) (by kernel_rfl) (.inr ⟨rfl, rfl⟩) hS (fun a' ha => ?_)
        simp only [Act.put, List.setIfInBounds_toArray, List.set_cons_succ, List.set_cons_zero] at ha
        subst ha
        refine MixH.takes [false, false, false, false, false, false, false, false, true, true, true] 5 (by kernel_rfl) (by kernel_rfl) (by decide) (by kernel_rfl) hS (fun K hK => ?_)
        simp only [Mix.pick]
        repeat (go_big_quiet_step (fail))
        refine wpQuiet_nil (hK _ ?_)
        clear hK K
        refine MixH.take 4 11 _ (undef) rfl (by kernel_rfl) (by kernel_rfl) (by kernel_rfl) (by kernel_rfl) (.inr ⟨rfl, rfl⟩) hS (fun a' ha => ?_)
        simp only [Act.put, List.setIfInBounds_toArray, List.set_cons_succ, List.set_cons_zero] at ha
        subst ha
        refine MixH.take 3 7 _ (undef) rfl (by kernel_rfl) (by kernel_rfl) (by kernel_rfl) (by kernel_rfl) (.inr ⟨rfl, rfl⟩) hS (fun a' ha => ?_)
        simp only [Act.put, List.setIfInBounds_toArray, List.set_cons_succ, List.set_cons_zero] at ha
        subst ha
        refine MixH.takes [false, false, false, false, false, false, false, false, false, false, false, false, true, true, true] 0 (by kernel_rfl) (by kernel_rfl) (by decide) (by kernel_rfl) hS (fun K hK => ?_)
        simp only [Mix.pick]
        repeat (go_big_quiet_step (fail))
        refine wpQuiet_nil (hK _ ?_)
        clear hK K
        refine MixH.done (by kernel_rfl) ?_
        go_upto_region 4 with fail
        refine MixH.start (fun A => HAt A H s v ∧ PcAt A B P) (by kernel_rfl) ?_
        obtain ⟨wA4, hwA4⟩ : ∃ wA4, wA4 = wA2.drew := ⟨_, rfl⟩
        replace hS : HAt wA4 H s v ∧ PcAt wA4 B P := by rw [hwA4]; exact ⟨hS.1.ch (Ch.refl (fun _ => False) _).drew (fun _ _ => id), hS.2.ch (Ch.refl (fun _ => False) _).drew id⟩
        replace hb : Below w.heap.size w wA4 := by rw [hwA4]; exact drew_below hb
        rw [← hwA4]
        clear hwA4
        refine MixH.takes [true, true, true] 13 (by kernel_rfl) (by kernel_rfl) (by decide) (by kernel_rfl) hS (fun K hK => ?_)
        simp only [Mix.pick]
        repeat (go_big_quiet_step (fail))
        refine wpQuiet_nil (hK _ ?_)
        clear hK K
        refine MixH.take 12 3 _ (.bool false) rfl (by kernel_rfl) (by kernel_rfl) (by kernel_rfl) (by kernel_rfl) (yields_bool (.tmp 29) rfl ⟨B, 2, none⟩ _ rfl rfl (fun A hA => (hA.2.cell 2).trans (by rw [HP.out]; rfl))) hS (fun a' ha => ?_)
        simp only [Act.put, List.setIfInBounds_toArray, List.set_cons_succ, List.set_cons_zero] at ha
        subst ha
        refine MixH.takes [false, false, false, false, true, true, true] 9 (by kernel_rfl) (by kernel_rfl) (by decide) (by kernel_rfl) hS (fun K hK => ?_)
        simp only [Mix.pick]
        repeat (go_big_quiet_step (fail))
        refine wpQuiet_nil (hK _ ?_)
        clear hK K
        refine MixH.take 8 7 _ (.agg P) rfl (by kernel_rfl) (by kernel_rfl) (by kernel_rfl) (by kernel_rfl) (yields_Pc (.tmp 3) rfl B P HP3.out rfl rfl (fun A hA => hA.2)) hS (fun a' ha => ?_)
        simp only [Act.put, List.setIfInBounds_toArray, List.set_cons_succ, List.set_cons_zero] at ha
        subst ha
        refine MixH.takes [false, false, false, false, false, false, false, false, false, true, true, true] 5 (by kernel_rfl) (by kernel_rfl) (by decide) (by kernel_rfl) hS (fun K hK => ?_)
        simp only [Mix.pick]
        repeat (go_big_quiet_step (fail))
        refine wpQuiet_nil (hK _ ?_)
        clear hK K
        refine MixH.take 4 12 _ (.int .i64 (s.en : Int)) rfl (by kernel_rfl) (by kernel_rfl) (by kernel_rfl) (by kernel_rfl) (yields_int (.tmp 38) rfl ⟨H, 1, none⟩ _ rfl rfl (fun A hA => hA.1.c1)) hS (fun a' ha => ?_)
        simp only [Act.put, List.setIfInBounds_toArray, List.set_cons_succ, List.set_cons_zero] at ha
        subst ha
        refine MixH.one [false, false, false, false, false, false, false, false, true] 3 8 _ rfl rfl (by kernel_rfl) (by kernel_rfl) (fun K hK => ?_)
        simp only [Mix.pick]
        go_wp2_with fail
        refine Calls.mono (QE.out _) ?_
        rintro e wE4 ⟨rfl, hbE⟩
        replace hS : HAt wE4 H s v ∧ PcAt wE4 B P := ⟨hS.1.below hbE, hS.2.below hbE⟩
        replace hb : Below w.heap.size w wE4 := hb.trans (hbE.mono hb.size)
        clear hbE
        go_wp2
        refine ⟨rfl, hK _ _ hS ?_⟩
        clear hK K
        refine MixH.takes [false, false, false, false, false, false, false, false, false, false, false, false, false, true, true, true] 0 (by kernel_rfl) (by kernel_rfl) (by decide) (by kernel_rfl) hS (fun K hK => ?_)
        simp only [Mix.pick]
        repeat (go_big_quiet_step (fail))
        refine wpQuiet_nil (hK _ ?_)
        clear hK K
        refine MixH.done (by kernel_rfl) ?_
        go_wp2
        go_ret
        exact ⟨by rw [HR.out]; rfl, hb⟩
      · have HR : Hid (E = 0) := by show E = 0; rw [HE.out]; unfold rfE; rw [if_neg (by simp), if_neg (fun k => hx k.2.2), if_neg (by have := HK.out; omega)]
        have hd : (((o : Int) + (n : Int)) != (s.en : Int)) = false := by rw [bne_eq_false_iff_eq]; omega
        clear HE hx
        go_enter Try.func48, Try.ntmps48
        go_upto_region 1 with fail
        rw [HWW.out, HBB.out]
        go_upto_region 2 with fail
        first | rw [HKI.out] | rw [HKD.out]
        refine MixH.start (fun A => HAt A H s v ∧ PcAt A B P) (by kernel_rfl) ?_
        obtain ⟨wA2, hwA2⟩ : ∃ wA2, wA2 = W.drew := ⟨_, rfl⟩
        replace hS : HAt wA2 H s v ∧ PcAt wA2 B P := by rw [hwA2]; exact ⟨hS.1.ch (Ch.refl (fun _ => False) _).drew (fun _ _ => id), hS.2.ch (Ch.refl (fun _ => False) _).drew id⟩
        replace hb : Below w.heap.size w wA2 := by rw [hwA2]; exact drew_below hb
        rw [← hwA2]
        clear hwA2
        refine MixH.takes [true, true, true] 12 (by kernel_rfl) (by kernel_rfl) (by decide) (by kernel_rfl) hS (fun K hK => ?_)
        simp only [Mix.pick]
        repeat (go_big_quiet_step (fail))
        refine wpQuiet_nil (hK _ ?_)
        clear hK K
        refine MixH.take 11 3 _ (.bool false) rfl (by kernel_rfl) (by kernel_rfl) (by kernel_rfl) (by kernel_rfl) (yields_bool (.tmp 14) rfl ⟨B, 2, none⟩ _ rfl rfl (fun A hA => (hA.2.cell 2).trans (by rw [HP.out]; rfl))) hS (fun a' ha => ?_)
        simp only [Act.put, List.setIfInBounds_toArray, List.set_cons_succ, List.set_cons_zero] at ha
        subst ha
        refine MixH.takes [false, false, false, false, true, true] 9 (by kernel_rfl) (by kernel_rfl) (by decide) (by kernel_rfl) hS (fun K hK => ?_)
        simp only [Mix.pick]
        repeat (go_big_quiet_step (fail))
        refine wpQuiet_nil (hK _ ?_)
        clear hK K
        refine MixH.take 8 6 _ (undef) rfl (by kernel_rfl) (by kernel_rfl) (by kernel_rfl) (by kernel_rfl) (.inr ⟨rfl, rfl⟩) hS (fun a' ha => ?_)
        simp only [Act.put, List.setIfInBounds_toArray, List.set_cons_succ, List.set_cons_zero] at ha
        subst ha
        refine MixH.takes [false, false, false, false, false, false, false, false, true, true, true] 5 (by kernel_rfl) (by kernel_rfl) (by decide) (by kernel_rfl) hS (fun K hK => ?_)
        simp only [Mix.pick]
        repeat (go_big_quiet_step (fail))
        refine wpQuiet_nil (hK _ ?_)
        clear hK K
        refine MixH.take 4 11 _ (undef) rfl (by kernel_rfl) (by kernel_rfl) (by kernel_rfl) (by kernel_rfl) (.inr ⟨rfl, rfl⟩) hS (fun a' ha => ?_)
        simp only [Act.put, List.setIfInBounds_toArray, List.set_cons_succ, List.set_cons_zero] at ha
        subst ha
        refine MixH.take 3 7 _ (undef) rfl (by kernel_rfl) (by kernel_rfl) (by kernel_rfl) (by kernel_rfl) (.inr ⟨rfl, rfl⟩) hS (fun a' ha => ?_)
        simp only [Act.put, List.setIfInBounds_toArray, List.set_cons_succ, List.set_cons_zero] at ha
        subst ha
        refine MixH.takes [false, false, false, false, false, false, false, false, false, false, false, false, true, true, true] 0 (by kernel_rfl) (by kernel_rfl) (by decide) (by kernel_rfl) hS (fun K hK => ?_)
        simp only [Mix.pick]
        repeat (go_big_quiet_step (fail))
        refine wpQuiet_nil (hK _ ?_)
        clear hK K
        refine MixH.done (by kernel_rfl) ?_
        go_upto_region 4 with fail
        refine MixH.start (fun A => HAt A H s v ∧ PcAt A B P) (by kernel_rfl) ?_
        obtain ⟨wA4, hwA4⟩ : ∃ wA4, wA4 = wA2.drew := ⟨_, rfl⟩
        replace hS : HAt wA4 H s v ∧ PcAt wA4 B P := by rw [hwA4]; exact ⟨hS.1.ch (Ch.refl (fun _ => False) _).drew (fun _ _ => id), hS.2.ch (Ch.refl (fun _ => False) _).drew id⟩
        replace hb : Below w.heap.size w wA4 := by rw [hwA4]; exact drew_below hb
        rw [← hwA4]
        clear hwA4
        refine MixH.takes [true, true, true] 13 (by kernel_rfl) (by kernel_rfl) (by decide) (by kernel_rfl) hS (fun K hK => ?_)
        simp only [Mix.pick]
        repeat (go_big_quiet_step (fail))
        refine wpQuiet_nil (hK _ ?_)
        clear hK K
        refine MixH.take 12 3 _ (.bool false) rfl (by kernel_rfl) (by kernel_rfl) (by kernel_rfl) (by kernel_rfl) (yields_bool (.tmp 29) rfl ⟨B, 2, none⟩ _ rfl rfl (fun A hA => (hA.2.cell 2).trans (by rw [HP.out]; rfl))) hS (fun a' ha => ?_)
        simp only [Act.put, List.setIfInBounds_toArray, List.set_cons_succ, List.set_cons_zero] at ha
        subst ha
        refine MixH.takes [false, false, false, false, true, true, true] 9 (by kernel_rfl) (by kernel_rfl) (by decide) (by kernel_rfl) hS (fun K hK => ?_)
        simp only [Mix.pick]
        repeat (go_big_quiet_step (fail))
        refine wpQuiet_nil (hK _ ?_)
        clear hK K
        refine MixH.take 8 7 _ (.agg P) rfl (by kernel_rfl) (by kernel_rfl) (by kernel_rfl) (by kernel_rfl) (yields_Pc (.tmp 3) rfl B P HP3.out rfl rfl (fun A hA => hA.2)) hS (fun a' ha => ?_)
        simp only [Act.put, List.setIfInBounds_toArray, List.set_cons_succ, List.set_cons_zero] at ha
        subst ha
        refine MixH.takes [false, false, false, false, false, false, false, false, false, true, true, true] 5 (by kernel_rfl) (by kernel_rfl) (by decide) (by kernel_rfl) hS (fun K hK => ?_)
        simp only [Mix.pick]
        repeat (go_big_quiet_step (fail))
        refine wpQuiet_nil (hK _ ?_)
        clear hK K
        refine MixH.take 4 12 _ (.int .i64 (s.en : Int)) rfl (by kernel_rfl) (by kernel_rfl) (by kernel_rfl) (by kernel_rfl) (yields_int (.tmp 38) rfl ⟨H, 1, none⟩ _ rfl rfl (fun A hA => hA.1.c1)) hS (fun a' ha => ?_)
        simp only [Act.put, List.setIfInBounds_toArray, List.set_cons_succ, List.set_cons_zero] at ha
        subst ha
        refine MixH.one [false, false, false, false, false, false, false, false, true] 3 8 _ rfl rfl (by kernel_rfl) (by kernel_rfl) (fun K hK => ?_)
        simp only [Mix.pick]
        go_wp2_with fail
        refine Calls.mono (QE.out _) ?_
        rintro e wE4 ⟨rfl, hbE⟩
        replace hS : HAt wE4 H s v ∧ PcAt wE4 B P := ⟨hS.1.below hbE, hS.2.below hbE⟩
        replace hb : Below w.heap.size w wE4 := hb.trans (hbE.mono hb.size)
        clear hbE
        go_wp2
        refine ⟨rfl, hK _ _ hS ?_⟩
        clear hK K
        refine MixH.takes [false, false, false, false, false, false, false, false, false, false, false, false, false, true, true, true] 0 (by kernel_rfl) (by kernel_rfl) (by decide) (by kernel_rfl) hS (fun K hK => ?_)
        simp only [Mix.pick]
        repeat (go_big_quiet_step (fail))
        refine wpQuiet_nil (hK _ ?_)
        clear hK K
        refine MixH.done (by kernel_rfl) ?_
        go_upto_region 6 with fail
        refine MixH.start (fun A => HAt A H s v ∧ PcAt A B P) (by kernel_rfl) ?_
        obtain ⟨wA6, hwA6⟩ : ∃ wA6, wA6 = wE4.drew := ⟨_, rfl⟩
        replace hS : HAt wA6 H s v ∧ PcAt wA6 B P := by rw [hwA6]; exact ⟨hS.1.ch (Ch.refl (fun _ => False) _).drew (fun _ _ => id), hS.2.ch (Ch.refl (fun _ => False) _).drew id⟩
        replace hb : Below w.heap.size w wA6 := by rw [hwA6]; exact drew_below hb
        rw [← hwA6]
        clear hwA6
        refine MixH.takes [true, true, true, true] 14 (by kernel_rfl) (by kernel_rfl) (by decide) (by kernel_rfl) hS (fun K hK => ?_)
        simp only [Mix.pick]
        repeat (go_big_quiet_step (fail))
        refine wpQuiet_nil (hK _ ?_)
        clear hK K
        refine MixH.take 13 4 _ (undef) rfl (by kernel_rfl) (by kernel_rfl) (by kernel_rfl) (by kernel_rfl) (.inr ⟨rfl, rfl⟩) hS (fun a' ha => ?_)
        simp only [Act.put, List.setIfInBounds_toArray, List.set_cons_succ, List.set_cons_zero] at ha
        subst ha
        refine MixH.takes [false, false, false, false, false, true, true, true] 10 (by kernel_rfl) (by kernel_rfl) (by decide) (by kernel_rfl) hS (fun K hK => ?_)
        simp only [Mix.pick]
        repeat (go_big_quiet_step (fail))
        refine wpQuiet_nil (hK _ ?_)
        clear hK K
        refine MixH.take 9 8 _ (undef) rfl (by kernel_rfl) (by kernel_rfl) (by kernel_rfl) (by kernel_rfl) (.inr ⟨rfl, rfl⟩) hS (fun a' ha => ?_)
        simp only [Act.put, List.setIfInBounds_toArray, List.set_cons_succ, List.set_cons_zero] at ha
        subst ha
        refine MixH.takes [false, false, false, false, false, false, false, false, false, false, true, true, true] 6 (by kernel_rfl) (by kernel_rfl) (by decide) (by kernel_rfl) hS (fun K hK => ?_)
        simp only [Mix.pick]
        repeat (go_big_quiet_step (fail))
        refine wpQuiet_nil (hK _ ?_)
        clear hK K
        refine MixH.take 5 13 _ (undef) rfl (by kernel_rfl) (by kernel_rfl) (by kernel_rfl) (by kernel_rfl) (.inr ⟨rfl, rfl⟩) hS (fun a' ha => ?_)
        simp only [Act.put, List.setIfInBounds_toArray, List.set_cons_succ, List.set_cons_zero] at ha
        subst ha
        refine MixH.take 4 9 _ (undef) rfl (by kernel_rfl) (by kernel_rfl) (by kernel_rfl) (by kernel_rfl) (.inr ⟨rfl, rfl⟩) hS (fun a' ha => ?_)
        simp only [Act.put, List.setIfInBounds_toArray, List.set_cons_succ, List.set_cons_zero] at ha
        subst ha
        refine MixH.takes [false, false, false, false, false, false, false, false, false, false, false, false, false, false, true] 3 (by kernel_rfl) (by kernel_rfl) (by decide) (by kernel_rfl) hS (fun K hK => ?_)
        simp only [Mix.pick]
        repeat (go_big_quiet_step (fail))
        refine wpQuiet_nil (hK _ ?_)
        clear hK K
        refine MixH.takes [false, false, false, false, false, false, false, false, false, false, false, false, false, false, false, true, true, true] 0 (by kernel_rfl) (by kernel_rfl) (by decide) (by kernel_rfl) hS (fun K hK => ?_)
        simp only [Mix.pick]
        repeat (go_big_quiet_step (fail))
        refine wpQuiet_nil (hK _ ?_)
        clear hK K
        refine MixH.done (by kernel_rfl) ?_
        go_wp2
        go_ret
        exact ⟨by rw [HR.out]; rfl, hb⟩
    · by_cases hx : s.en < o + n
      · have HR : Hid (E = 113) := by show E = 113; rw [HE.out]; unfold rfE; exact if_pos ⟨HK.out, rfl, hx⟩
        have hd : ((s.en : Int) < (o : Int) + (n : Int)) := by omega
        clear HE hx
        go_enter Try.func48, Try.ntmps48
        go_upto_region 1 with fail
        rw [HWW.out, HBB.out]
        go_upto_region 2 with fail
        first | rw [HKI.out] | rw [HKD.out]
        refine MixH.start (fun A => HAt A H s v ∧ PcAt A B P) (by kernel_rfl) ?_
        obtain ⟨wA2, hwA2⟩ : ∃ wA2, wA2 = W.drew := ⟨_, rfl⟩
        replace hS : HAt wA2 H s v ∧ PcAt wA2 B P := by rw [hwA2]; exact ⟨hS.1.ch (Ch.refl (fun _ => False) _).drew (fun _ _ => id), hS.2.ch (Ch.refl (fun _ => False) _).drew id⟩
        replace hb : Below w.heap.size w wA2 := by rw [hwA2]; exact drew_below hb
        rw [← hwA2]
        clear hwA2
        refine MixH.takes [true, true, true] 12 (by kernel_rfl) (by kernel_rfl) (by decide) (by kernel_rfl) hS (fun K hK => ?_)
        simp only [Mix.pick]
        repeat (go_big_quiet_step (fail))
        refine wpQuiet_nil (hK _ ?_)
        clear hK K
        refine MixH.take 11 3 _ (.bool true) rfl (by kernel_rfl) (by kernel_rfl) (by kernel_rfl) (by kernel_rfl) (yields_bool (.tmp 14) rfl ⟨B, 2, none⟩ _ rfl rfl (fun A hA => (hA.2.cell 2).trans (by rw [HP.out]; rfl))) hS (fun a' ha => ?_)
        simp only [Act.put, List.setIfInBounds_toArray, List.set_cons_succ, List.set_cons_zero] at ha
        subst ha
        refine MixH.takes [false, false, false, false, true, true] 9 (by kernel_rfl) (by kernel_rfl) (by decide) (by kernel_rfl) hS (fun K hK => ?_)
        simp only [Mix.pick]
        repeat (go_big_quiet_step (fail))
        refine wpQuiet_nil (hK _ ?_)
        clear hK K
        refine MixH.take 8 6 _ (.agg P) rfl (by kernel_rfl) (by kernel_rfl) (by kernel_rfl) (by kernel_rfl) (yields_Pc (.tmp 3) rfl B P HP3.out rfl rfl (fun A hA => hA.2)) hS (fun a' ha => ?_)
        simp only [Act.put, List.setIfInBounds_toArray, List.set_cons_succ, List.set_cons_zero] at ha
        subst ha
        refine MixH.takes [false, false, false, false, false, false, false, false, true, true, true] 5 (by kernel_rfl) (by kernel_rfl) (by decide) (by kernel_rfl) hS (fun K hK => ?_)
        simp only [Mix.pick]
        repeat (go_big_quiet_step (fail))
        refine wpQuiet_nil (hK _ ?_)
        clear hK K
        refine MixH.take 4 11 _ (.int .i64 (s.en : Int)) rfl (by kernel_rfl) (by kernel_rfl) (by kernel_rfl) (by kernel_rfl) (yields_int (.tmp 22) rfl ⟨H, 1, none⟩ _ rfl rfl (fun A hA => hA.1.c1)) hS (fun a' ha => ?_)
        simp only [Act.put, List.setIfInBounds_toArray, List.set_cons_succ, List.set_cons_zero] at ha
        subst ha
        refine MixH.one [false, false, false, false, false, false, false, true] 3 7 _ rfl rfl (by kernel_rfl) (by kernel_rfl) (fun K hK => ?_)
        simp only [Mix.pick]
        go_wp2_with fail
        refine Calls.mono (QE.out _) ?_
        rintro e wE2 ⟨rfl, hbE⟩
        replace hS : HAt wE2 H s v ∧ PcAt wE2 B P := ⟨hS.1.below hbE, hS.2.below hbE⟩
        replace hb : Below w.heap.size w wE2 := hb.trans (hbE.mono hb.size)
        clear hbE
        go_wp2
        refine ⟨rfl, hK _ _ hS ?_⟩
        clear hK K
        refine MixH.takes [false, false, false, false, false, false, false, false, false, false, false, false, true, true, true] 0 (by kernel_rfl) (by kernel_rfl) (by decide) (by kernel_rfl) hS (fun K hK => ?_)
        simp only [Mix.pick]
        repeat (go_big_quiet_step (fail))
        refine wpQuiet_nil (hK _ ?_)
        clear hK K
        refine MixH.done (by kernel_rfl) ?_
        go_wp2
        go_ret
        exact ⟨by rw [HR.out]; rfl, hb⟩
      · have HR : Hid (E = 0) := by show E = 0; rw [HE.out]; unfold rfE; rw [if_neg (fun k => hx k.2.2), if_neg (by simp), if_neg (by simp)]
        have hd : ¬ ((s.en : Int) < (o : Int) + (n : Int)) := by omega
        clear HE hx
        go_enter Try.func48, Try.ntmps48
        go_upto_region 1 with fail
        rw [HWW.out, HBB.out]
        go_upto_region 2 with fail
        first | rw [HKI.out] | rw [HKD.out]
        refine MixH.start (fun A => HAt A H s v ∧ PcAt A B P) (by kernel_rfl) ?_
        obtain ⟨wA2, hwA2⟩ : ∃ wA2, wA2 = W.drew := ⟨_, rfl⟩
        replace hS : HAt wA2 H s v ∧ PcAt wA2 B P := by rw [hwA2]; exact ⟨hS.1.ch (Ch.refl (fun _ => False) _).drew (fun _ _ => id), hS.2.ch (Ch.refl (fun _ => False) _).drew id⟩
        replace hb : Below w.heap.size w wA2 := by rw [hwA2]; exact drew_below hb
        rw [← hwA2]
        clear hwA2
        refine MixH.takes [true, true, true] 12 (by kernel_rfl) (by kernel_rfl) (by decide) (by kernel_rfl) hS (fun K hK => ?_)
        simp only [Mix.pick]
        repeat (go_big_quiet_step (fail))
        refine wpQuiet_nil (hK _ ?_)
        clear hK K
        refine MixH.take 11 3 _ (.bool true) rfl (by kernel_rfl) (by kernel_rfl) (by kernel_rfl) (by kernel_rfl) (yields_bool (.tmp 14) rfl ⟨B, 2, none⟩ _ rfl rfl (fun A hA => (hA.2.cell 2).trans (by rw [HP.out]; rfl))) hS (fun a' ha => ?_)
        simp only [Act.put, List.setIfInBounds_toArray, List.set_cons_succ, List.set_cons_zero] at ha
        subst ha
        refine MixH.takes [false, false, false, false, true, true] 9 (by kernel_rfl) (by kernel_rfl) (by decide) (by kernel_rfl) hS (fun K hK => ?_)
        simp only [Mix.pick]
        repeat (go_big_quiet_step (fail))
        refine wpQuiet_nil (hK _ ?_)
        clear hK K
        refine MixH.take 8 6 _ (.agg P) rfl (by kernel_rfl) (by kernel_rfl) (by kernel_rfl) (by kernel_rfl) (yields_Pc (.tmp 3) rfl B P HP3.out rfl rfl (fun A hA => hA.2)) hS (fun a' ha => ?_)
        simp only [Act.put, List.setIfInBounds_toArray, List.set_cons_succ, List.set_cons_zero] at ha
        subst ha
        refine MixH.takes [false, false, false, false, false, false, false, false, true, true, true] 5 (by kernel_rfl) (by kernel_rfl) (by decide) (by kernel_rfl) hS (fun K hK => ?_)
        simp only [Mix.pick]
        repeat (go_big_quiet_step (fail))
        refine wpQuiet_nil (hK _ ?_)
        clear hK K
        refine MixH.take 4 11 _ (.int .i64 (s.en : Int)) rfl (by kernel_rfl) (by kernel_rfl) (by kernel_rfl) (by kernel_rfl) (yields_int (.tmp 22) rfl ⟨H, 1, none⟩ _ rfl rfl (fun A hA => hA.1.c1)) hS (fun a' ha => ?_)
        simp only [Act.put, List.setIfInBounds_toArray, List.set_cons_succ, List.set_cons_zero] at ha
        subst ha
        refine MixH.one [false, false, false, false, false, false, false, true] 3 7 _ rfl rfl (by kernel_rfl) (by kernel_rfl) (fun K hK => ?_)
        simp only [Mix.pick]
        go_wp2_with fail
        refine Calls.mono (QE.out _) ?_
        rintro e wE2 ⟨rfl, hbE⟩
        replace hS : HAt wE2 H s v ∧ PcAt wE2 B P := ⟨hS.1.below hbE, hS.2.below hbE⟩
        replace hb : Below w.heap.size w wE2 := hb.trans (hbE.mono hb.size)
        clear hbE
        go_wp2
        refine ⟨rfl, hK _ _ hS ?_⟩
        clear hK K
        refine MixH.takes [false, false, false, false, false, false, false, false, false, false, false, false, true, true, true] 0 (by kernel_rfl) (by kernel_rfl) (by decide) (by kernel_rfl) hS (fun K hK => ?_)
        simp only [Mix.pick]
        repeat (go_big_quiet_step (fail))
        refine wpQuiet_nil (hK _ ?_)
        clear hK K
        refine MixH.done (by kernel_rfl) ?_
        go_upto_region 4 with fail
        refine MixH.start (fun A => HAt A H s v ∧ PcAt A B P) (by kernel_rfl) ?_
        obtain ⟨wA4, hwA4⟩ : ∃ wA4, wA4 = wE2.drew := ⟨_, rfl⟩
        replace hS : HAt wA4 H s v ∧ PcAt wA4 B P := by rw [hwA4]; exact ⟨hS.1.ch (Ch.refl (fun _ => False) _).drew (fun _ _ => id), hS.2.ch (Ch.refl (fun _ => False) _).drew id⟩
        replace hb : Below w.heap.size w wA4 := by rw [hwA4]; exact drew_below hb
        rw [← hwA4]
        clear hwA4
        refine MixH.takes [true, true, true] 13 (by kernel_rfl) (by kernel_rfl) (by decide) (by kernel_rfl) hS (fun K hK => ?_)
        simp only [Mix.pick]
        repeat (go_big_quiet_step (fail))
        refine wpQuiet_nil (hK _ ?_)
        clear hK K
        refine MixH.take 12 3 _ (.bool true) rfl (by kernel_rfl) (by kernel_rfl) (by kernel_rfl) (by kernel_rfl) (yields_bool (.tmp 29) rfl ⟨B, 2, none⟩ _ rfl rfl (fun A hA => (hA.2.cell 2).trans (by rw [HP.out]; rfl))) hS (fun a' ha => ?_)
        simp only [Act.put, List.setIfInBounds_toArray, List.set_cons_succ, List.set_cons_zero] at ha
        subst ha
        refine MixH.takes [false, false, false, false, true, true, true] 9 (by kernel_rfl) (by kernel_rfl) (by decide) (by kernel_rfl) hS (fun K hK => ?_)
        simp only [Mix.pick]
        repeat (go_big_quiet_step (fail))
        refine wpQuiet_nil (hK _ ?_)
        clear hK K
        refine MixH.take 8 7 _ (undef) rfl (by kernel_rfl) (by kernel_rfl) (by kernel_rfl) (by kernel_rfl) (.inr ⟨rfl, rfl⟩) hS (fun a' ha => ?_)
        simp only [Act.put, List.setIfInBounds_toArray, List.set_cons_succ, List.set_cons_zero] at ha
        subst ha
        refine MixH.takes [false, false, false, false, false, false, false, false, false, true, true, true] 5 (by kernel_rfl) (by kernel_rfl) (by decide) (by kernel_rfl) hS (fun K hK => ?_)
        simp only [Mix.pick]
        repeat (go_big_quiet_step (fail))
        refine wpQuiet_nil (hK _ ?_)
        clear hK K
        refine MixH.take 4 12 _ (undef) rfl (by kernel_rfl) (by kernel_rfl) (by kernel_rfl) (by kernel_rfl) (.inr ⟨rfl, rfl⟩) hS (fun a' ha => ?_)
        simp only [Act.put, List.setIfInBounds_toArray, List.set_cons_succ, List.set_cons_zero] at ha
        subst ha
        refine MixH.take 3 8 _ (undef) rfl (by kernel_rfl) (by kernel_rfl) (by kernel_rfl) (by kernel_rfl) (.inr ⟨rfl, rfl⟩) hS (fun a' ha => ?_)
        simp only [Act.put, List.setIfInBounds_toArray, List.set_cons_succ, List.set_cons_zero] at ha
        subst ha
        refine MixH.takes [false, false, false, false, false, false, false, false, false, false, false, false, false, true, true, true] 0 (by kernel_rfl) (by kernel_rfl) (by decide) (by kernel_rfl) hS (fun K hK => ?_)
        simp only [Mix.pick]
        repeat (go_big_quiet_step (fail))
        refine wpQuiet_nil (hK _ ?_)
        clear hK K
        refine MixH.done (by kernel_rfl) ?_
        go_upto_region 6 with fail
        refine MixH.start (fun A => HAt A H s v ∧ PcAt A B P) (by kernel_rfl) ?_
        obtain ⟨wA6, hwA6⟩ : ∃ wA6, wA6 = wA4.drew := ⟨_, rfl⟩
        replace hS : HAt wA6 H s v ∧ PcAt wA6 B P := by rw [hwA6]; exact ⟨hS.1.ch (Ch.refl (fun _ => False) _).drew (fun _ _ => id), hS.2.ch (Ch.refl (fun _ => False) _).drew id⟩
        replace hb : Below w.heap.size w wA6 := by rw [hwA6]; exact drew_below hb
        rw [← hwA6]
        clear hwA6
        refine MixH.takes [true, true, true, true] 14 (by kernel_rfl) (by kernel_rfl) (by decide) (by kernel_rfl) hS (fun K hK => ?_)
        simp only [Mix.pick]
        repeat (go_big_quiet_step (fail))
        refine wpQuiet_nil (hK _ ?_)
        clear hK K
        refine MixH.take 13 4 _ (undef) rfl (by kernel_rfl) (by kernel_rfl) (by kernel_rfl) (by kernel_rfl) (.inr ⟨rfl, rfl⟩) hS (fun a' ha => ?_)
        simp only [Act.put, List.setIfInBounds_toArray, List.set_cons_succ, List.set_cons_zero] at ha
        subst ha
        refine MixH.takes [false, false, false, false, false, true, true, true] 10 (by kernel_rfl) (by kernel_rfl) (by decide) (by kernel_rfl) hS (fun K hK => ?_)
        simp only [Mix.pick]
        repeat (go_big_quiet_step (fail))
        refine wpQuiet_nil (hK _ ?_)
        clear hK K
        refine MixH.take 9 8 _ (undef) rfl (by kernel_rfl) (by kernel_rfl) (by kernel_rfl) (by kernel_rfl) (.inr ⟨rfl, rfl⟩) hS (fun a' ha => ?_)
        simp only [Act.put, List.setIfInBounds_toArray, List.set_cons_succ, List.set_cons_zero] at ha
        subst ha
        refine MixH.takes [false, false, false, false, false, false, false, false, false, false, true, true, true] 6 (by kernel_rfl) (by kernel_rfl) (by decide) (by kernel_rfl) hS (fun K hK => ?_)
        simp only [Mix.pick]
        repeat (go_big_quiet_step (fail))
        refine wpQuiet_nil (hK _ ?_)
        clear hK K
        refine MixH.take 5 13 _ (undef) rfl (by kernel_rfl) (by kernel_rfl) (by kernel_rfl) (by kernel_rfl) (.inr ⟨rfl, rfl⟩) hS (fun a' ha => ?_)
        simp only [Act.put, List.setIfInBounds_toArray, List.set_cons_succ, List.set_cons_zero] at ha
        subst ha
        refine MixH.take 4 9 _ (undef) rfl (by kernel_rfl) (by kernel_rfl) (by kernel_rfl) (by kernel_rfl) (.inr ⟨rfl, rfl⟩) hS (fun a' ha => ?_)
        simp only [Act.put, List.setIfInBounds_toArray, List.set_cons_succ, List.set_cons_zero] at ha
        subst ha
        refine MixH.takes [false, false, false, false, false, false, false, false, false, false, false, false, false, false, true] 3 (by kernel_rfl) (by kernel_rfl) (by decide) (by kernel_rfl) hS (fun K hK => ?_)
        simp only [Mix.pick]
        repeat (go_big_quiet_step (fail))
        refine wpQuiet_nil (hK _ ?_)
        clear hK K
        refine MixH.takes [false, false, false, false, false, false, false, false, false, false, false, false, false, false, false, true, true, true] 0 (by kernel_rfl) (by kernel_rfl) (by decide) (by kernel_rfl) hS (fun K hK => ?_)
        simp only [Mix.pick]
        repeat (go_big_quiet_step (fail))
        refine wpQuiet_nil (hK _ ?_)
        clear hK K
        refine MixH.done (by kernel_rfl) ?_
        go_wp2
        go_ret
        exact ⟨by rw [HR.out]; rfl, hb⟩
  · have HK : Hid (s.en = 0) := by show s.en = 0; omega
    have hkb : ¬ (0 : Int) < (s.en : Int) := by omega
    have HKI : Hid (decide ((0 : Int) < (s.en : Int)) = false) := decide_eq_false hkb
    have HKD : Hid (decide (0 < s.en) = false) := decide_eq_false hk
    clear hk
    cases more
    · by_cases hx : o + n < L
      · have HR : Hid (E = 114) := by show E = 114; rw [HE.out]; unfold rfE; rw [if_neg (by simp), if_neg (by have := HK.out; omega), if_pos ⟨by have := HK.out; omega, rfl, by rw [← HLL.out]; exact hx⟩]
        have hd : ((o : Int) + (n : Int)) < (L : Int) := by omega
        clear HE hx
        go_enter Try.func48, Try.ntmps48
        go_upto_region 1 with fail
        rw [HWW.out, HBB.out]
        go_upto_region 2 with fail
        first | rw [HKI.out] | rw [HKD.out]
        refine MixH.start (fun A => HAt A H s v ∧ PcAt A B P) (by kernel_rfl) ?_
        obtain ⟨wA2, hwA2⟩ : ∃ wA2, wA2 = W.drew := ⟨_, rfl⟩
        replace hS : HAt wA2 H s v ∧ PcAt wA2 B P := by rw [hwA2]; exact ⟨hS.1.ch (Ch.refl (fun _ => False) _).drew (fun _ _ => id), hS.2.ch (Ch.refl (fun _ => False) _).drew id⟩
        replace hb : Below w.heap.size w wA2 := by rw [hwA2]; exact drew_below hb
        rw [← hwA2]
        clear hwA2
        refine MixH.takes [true, true, true] 12 (by kernel_rfl) (by kernel_rfl) (by decide) (by kernel_rfl) hS (fun K hK => ?_)
        simp only [Mix.pick]
        repeat (go_big_quiet_step (fail))
        refine wpQuiet_nil (hK _ ?_)
        clear hK K
        refine MixH.take 11 3 _ (undef) rfl (by kernel_rfl) (by kernel_rfl) (by kernel_rfl) (by kernel_rfl) (.inr ⟨rfl, rfl⟩) hS (fun a' ha => ?_)
        simp only [Act.put, List.setIfInBounds_toArray, List.set_cons_succ, List.set_cons_zero] at ha
        subst ha
        refine MixH.takes [false, false, false, false, true, true] 9 (by kernel_rfl) (by kernel_rfl) (by decide) (by kernel_rfl) hS (fun K hK => ?_)
        simp only [Mix.pick]
        repeat (go_big_quiet_step (fail))
        refine wpQuiet_nil (hK _ ?_)
        clear hK K
        refine MixH.take 8 6 _ (undef) rfl (by kernel_rfl) (by kernel_rfl) (by kernel_rfl) (by kernel_rfl) (.inr ⟨rfl, rfl⟩) hS (fun a' ha => ?_)
        simp only [Act.put, List.setIfInBounds_toArray, List.set_cons_succ, List.set_cons_zero] at ha
        subst ha
        refine MixH.takes [false, false, false, false, false, false, false, false, true, true, true] 5 (by kernel_rfl) (by kernel_rfl) (by decide) (by kernel_rfl) hS (fun K hK => ?_)
        simp only [Mix.pick]
        repeat (go_big_quiet_step (fail))
        refine wpQuiet_nil (hK _ ?_)
        clear hK K
        refine MixH.take 4 11 _ (undef) rfl (by kernel_rfl) (by kernel_rfl) (by kernel_rfl) (by kernel_rfl) (.inr ⟨rfl, rfl⟩) hS (fun a' ha => ?_)
        simp only [Act.put, List.setIfInBounds_toArray, List.set_cons_succ, List.set_cons_zero] at ha
        subst ha
        refine MixH.take 3 7 _ (undef) rfl (by kernel_rfl) (by kernel_rfl) (by kernel_rfl) (by kernel_rfl) (.inr ⟨rfl, rfl⟩) hS (fun a' ha => ?_)
        simp only [Act.put, List.setIfInBounds_toArray, List.set_cons_succ, List.set_cons_zero] at ha
        subst ha
        refine MixH.takes [false, false, false, false, false, false, false, false, false, false, false, false, true, true, true] 0 (by kernel_rfl) (by kernel_rfl) (by decide) (by kernel_rfl) hS (fun K hK => ?_)
        simp only [Mix.pick]
        repeat (go_big_quiet_step (fail))
        refine wpQuiet_nil (hK _ ?_)
        clear hK K
        refine MixH.done (by kernel_rfl) ?_
        go_upto_region 4 with fail
        refine MixH.start (fun A => HAt A H s v ∧ PcAt A B P) (by kernel_rfl) ?_
        obtain ⟨wA4, hwA4⟩ : ∃ wA4, wA4 = wA2.drew := ⟨_, rfl⟩
        replace hS : HAt wA4 H s v ∧ PcAt wA4 B P := by rw [hwA4]; exact ⟨hS.1.ch (Ch.refl (fun _ => False) _).drew (fun _ _ => id), hS.2.ch (Ch.refl (fun _ => False) _).drew id⟩
        replace hb : Below w.heap.size w wA4 := by rw [hwA4]; exact drew_below hb
        rw [← hwA4]
        clear hwA4
        refine MixH.takes [true, true, true] 13 (by kernel_rfl) (by kernel_rfl) (by decide) (by kernel_rfl) hS (fun K hK => ?_)
        simp only [Mix.pick]
        repeat (go_big_quiet_step (fail))
        refine wpQuiet_nil (hK _ ?_)
        clear hK K
        refine MixH.take 12 3 _ (undef) rfl (by kernel_rfl) (by kernel_rfl) (by kernel_rfl) (by kernel_rfl) (.inr ⟨rfl, rfl⟩) hS (fun a' ha => ?_)
        simp only [Act.put, List.setIfInBounds_toArray, List.set_cons_succ, List.set_cons_zero] at ha
        subst ha
        refine MixH.takes [false, false, false, false, true, true, true] 9 (by kernel_rfl) (by kernel_rfl) (by decide) (by kernel_rfl) hS (fun K hK => ?_)
        simp only [Mix.pick]
        repeat (go_big_quiet_step (fail))
        refine wpQuiet_nil (hK _ ?_)
        clear hK K
        refine MixH.take 8 7 _ (undef) rfl (by kernel_rfl) (by kernel_rfl) (by kernel_rfl) (by kernel_rfl) (.inr ⟨rfl, rfl⟩) hS (fun a' ha => ?_)
        simp only [Act.put, List.setIfInBounds_toArray, List.set_cons_succ, List.set_cons_zero] at ha
        subst ha
        refine MixH.takes [false, false, false, false, false, false, false, false, false, true, true, true] 5 (by kernel_rfl) (by kernel_rfl) (by decide) (by kernel_rfl) hS (fun K hK => ?_)
        simp only [Mix.pick]
        repeat (go_big_quiet_step (fail))
        refine wpQuiet_nil (hK _ ?_)
        clear hK K
        refine MixH.take 4 12 _ (undef) rfl (by kernel_rfl) (by kernel_rfl) (by kernel_rfl) (by kernel_rfl) (.inr ⟨rfl, rfl⟩) hS (fun a' ha => ?_)
        simp only [Act.put, List.setIfInBounds_toArray, List.set_cons_succ, List.set_cons_zero] at ha
        subst ha
        refine MixH.take 3 8 _ (undef) rfl (by kernel_rfl) (by kernel_rfl) (by kernel_rfl) (by kernel_rfl) (.inr ⟨rfl, rfl⟩) hS (fun a' ha => ?_)
        simp only [Act.put, List.setIfInBounds_toArray, List.set_cons_succ, List.set_cons_zero] at ha
        subst ha
        refine MixH.takes [false, false, false, false, false, false, false, false, false, false, false, false, false, true, true, true] 0 (by kernel_rfl) (by kernel_rfl) (by decide) (by kernel_rfl) hS (fun K hK => ?_)
        simp only [Mix.pick]
        repeat (go_big_quiet_step (fail))
        refine wpQuiet_nil (hK _ ?_)
        clear hK K
        refine MixH.done (by kernel_rfl) ?_
        go_upto_region 6 with fail
        refine MixH.start (fun A => HAt A H s v ∧ PcAt A B P) (by kernel_rfl) ?_
        obtain ⟨wA6, hwA6⟩ : ∃ wA6, wA6 = wA4.drew := ⟨_, rfl⟩
        replace hS : HAt wA6 H s v ∧ PcAt wA6 B P := by rw [hwA6]; exact ⟨hS.1.ch (Ch.refl (fun _ => False) _).drew (fun _ _ => id), hS.2.ch (Ch.refl (fun _ => False) _).drew id⟩
        replace hb : Below w.heap.size w wA6 := by rw [hwA6]; exact drew_below hb
        rw [← hwA6]
        clear hwA6
        refine MixH.takes [true, true, true, true] 14 (by kernel_rfl) (by kernel_rfl) (by decide) (by kernel_rfl) hS (fun K hK => ?_)
        simp only [Mix.pick]
        repeat (go_big_quiet_step (fail))
        refine wpQuiet_nil (hK _ ?_)
        clear hK K
        refine MixH.take 13 4 _ (.bool false) rfl (by kernel_rfl) (by kernel_rfl) (by kernel_rfl) (by kernel_rfl) (yields_bool (.tmp 46) rfl ⟨B, 2, none⟩ _ rfl rfl (fun A hA => (hA.2.cell 2).trans (by rw [HP.out]; rfl))) hS (fun a' ha => ?_)
        simp only [Act.put, List.setIfInBounds_toArray, List.set_cons_succ, List.set_cons_zero] at ha
        subst ha
        refine MixH.takes [false, false, false, false, false, true, true, true] 10 (by kernel_rfl) (by kernel_rfl) (by decide) (by kernel_rfl) hS (fun K hK => ?_)
        simp only [Mix.pick]
        repeat (go_big_quiet_step (fail))
        refine wpQuiet_nil (hK _ ?_)
        clear hK K
        refine MixH.take 9 8 _ (.agg P) rfl (by kernel_rfl) (by kernel_rfl) (by kernel_rfl) (by kernel_rfl) (yields_Pc (.tmp 3) rfl B P HP3.out rfl rfl (fun A hA => hA.2)) hS (fun a' ha => ?_)
        simp only [Act.put, List.setIfInBounds_toArray, List.set_cons_succ, List.set_cons_zero] at ha
        subst ha
        refine MixH.takes [false, false, false, false, false, false, false, false, false, false, true, true, true] 6 (by kernel_rfl) (by kernel_rfl) (by decide) (by kernel_rfl) hS (fun K hK => ?_)
        simp only [Mix.pick]
        repeat (go_big_quiet_step (fail))
        refine wpQuiet_nil (hK _ ?_)
        clear hK K
        refine MixH.take 5 13 _ (.slice ba L bc) rfl (by kernel_rfl) (by kernel_rfl) (by kernel_rfl) (by kernel_rfl) (yields_bytes (.tmp 55) rfl ⟨H, 2, none⟩ _ rfl rfl (fun A hA => hA.1.c2.trans (congrArg some HBV.out))) hS (fun a' ha => ?_)
        simp only [Act.put, List.setIfInBounds_toArray, List.set_cons_succ, List.set_cons_zero] at ha
        subst ha
        refine MixH.takes [false, false, false, false, false, false, false, false, false, false, false, false, false, false, true] 4 (by kernel_rfl) (by kernel_rfl) (by decide) (by kernel_rfl) hS (fun K hK => ?_)
        simp only [Mix.pick]
        repeat (go_big_quiet_step (fail))
        refine wpQuiet_nil (hK _ ?_)
        clear hK K
        refine MixH.one [false, false, false, false, false, false, false, false, false, true] 3 9 _ rfl rfl (by kernel_rfl) (by kernel_rfl) (fun K hK => ?_)
        simp only [Mix.pick]
        go_wp2_with fail
        refine Calls.mono (QE.out _) ?_
        rintro e wE6 ⟨rfl, hbE⟩
        replace hS : HAt wE6 H s v ∧ PcAt wE6 B P := ⟨hS.1.below hbE, hS.2.below hbE⟩
        replace hb : Below w.heap.size w wE6 := hb.trans (hbE.mono hb.size)
        clear hbE
        go_wp2
        refine ⟨rfl, hK _ _ hS ?_⟩
        clear hK K
        refine MixH.takes [false, false, false, false, false, false, false, false, false, false, false, false, false, false, false, true, true, true] 0 (by kernel_rfl) (by kernel_rfl) (by decide) (by kernel_rfl) hS (fun K hK => ?_)
        simp only [Mix.pick]
        repeat (go_big_quiet_step (fail))
        refine wpQuiet_nil (hK _ ?_)
        clear hK K
        refine MixH.done (by kernel_rfl) ?_
        go_wp2
        go_ret
        exact ⟨by rw [HR.out]; rfl, hb⟩
      · have HR : Hid (E = 0) := by show E = 0; rw [HE.out]; unfold rfE; rw [if_neg (by simp), if_neg (by have := HK.out; omega), if_neg (fun k => hx (by rw [HLL.out]; exact k.2.2))]
        have hd : ¬ ((o : Int) + (n : Int)) < (L : Int) := by omega
        clear HE hx
        go_enter Try.func48, Try.ntmps48
        go_upto_region 1 with fail
        rw [HWW.out, HBB.out]
        go_upto_region 2 with fail
        first | rw [HKI.out] | rw [HKD.out]
        refine MixH.start (fun A => HAt A H s v ∧ PcAt A B P) (by kernel_rfl) ?_
        obtain ⟨wA2, hwA2⟩ : ∃ wA2, wA2 = W.drew := ⟨_, rfl⟩
        replace hS : HAt wA2 H s v ∧ PcAt wA2 B P := by rw [hwA2]; exact ⟨hS.1.ch (Ch.refl (fun _ => False) _).drew (fun _ _ => id), hS.2.ch (Ch.refl (fun _ => False) _).drew id⟩
        replace hb : Below w.heap.size w wA2 := by rw [hwA2]; exact drew_below hb
        rw [← hwA2]
        clear hwA2
        refine MixH.takes [true, true, true] 12 (by kernel_rfl) (by kernel_rfl) (by decide) (by kernel_rfl) hS (fun K hK => ?_)
        simp only [Mix.pick]
        repeat (go_big_quiet_step (fail))
        refine wpQuiet_nil (hK _ ?_)
        clear hK K
        refine MixH.take 11 3 _ (undef) rfl (by kernel_rfl) (by kernel_rfl) (by kernel_rfl) (by kernel_rfl) (.inr ⟨rfl, rfl⟩) hS (fun a' ha => ?_)
        simp only [Act.put, List.setIfInBounds_toArray, List.set_cons_succ, List.set_cons_zero] at ha
        subst ha
        refine MixH.takes [false, false, false, false, true, true] 9 (by kernel_rfl) (by kernel_rfl) (by decide) (by kernel_rfl) hS (fun K hK => ?_)
        simp only [Mix.pick]
        repeat (go_big_quiet_step (fail))
        refine wpQuiet_nil (hK _ ?_)
        clear hK K
        refine MixH.take 8 6 _ (undef) rfl (by kernel_rfl) (by kernel_rfl) (by kernel_rfl) (by kernel_rfl) (.inr ⟨rfl, rfl⟩) hS (fun a' ha => ?_)
        simp only [Act.put, List.setIfInBounds_toArray, List.set_cons_succ, List.set_cons_zero] at ha
        subst ha
        refine MixH.takes [false, false, false, false, false, false, false, false, true, true, true] 5 (by kernel_rfl) (by kernel_rfl) (by decide) (by kernel_rfl) hS (fun K hK => ?_)
        simp only [Mix.pick]
        repeat (go_big_quiet_step (fail))
        refine wpQuiet_nil (hK _ ?_)
        clear hK K
        refine MixH.take 4 11 _ (undef) rfl (by kernel_rfl) (by kernel_rfl) (by kernel_rfl) (by kernel_rfl) (.inr ⟨rfl, rfl⟩) hS (fun a' ha => ?_)
        simp only [Act.put, List.setIfInBounds_toArray, List.set_cons_succ, List.set_cons_zero] at ha
        subst ha
        refine MixH.take 3 7 _ (undef) rfl (by kernel_rfl) (by kernel_rfl) (by kernel_rfl) (by kernel_rfl) (.inr ⟨rfl, rfl⟩) hS (fun a' ha => ?_)
        simp only [Act.put, List.setIfInBounds_toArray, List.set_cons_succ, List.set_cons_zero] at ha
        subst ha
        refine MixH.takes [false, false, false, false, false, false, false, false, false, false, false, false, true, true, true] 0 (by kernel_rfl) (by kernel_rfl) (by decide) (by kernel_rfl) hS (fun K hK => ?_)
        simp only [Mix.pick]
        repeat (go_big_quiet_step (fail))
        refine wpQuiet_nil (hK _ ?_)
        clear hK K
        refine MixH.done (by kernel_rfl) ?_
        go_upto_region 4 with fail
        refine MixH.start (fun A => HAt A H s v ∧ PcAt A B P) (by kernel_rfl) ?_
        obtain ⟨wA4, hwA4⟩ : ∃ wA4, wA4 = wA2.drew := ⟨_, rfl⟩
        replace hS : HAt wA4 H s v ∧ PcAt wA4 B P := by rw [hwA4]; exact ⟨hS.1.ch (Ch.refl (fun _ => False) _).drew (fun _ _ => id), hS.2.ch (Ch.refl (fun _ => False) _).drew id⟩
        replace hb : Below w.heap.size w wA4 := by rw [hwA4]; exact drew_below hb
        rw [← hwA4]
        clear hwA4
        refine MixH.takes [true, true, true] 13 (by kernel_rfl) (by kernel_rfl) (by decide) (by kernel_rfl) hS (fun K hK => ?_)
        simp only [Mix.pick]
        repeat (go_big_quiet_step (fail))
        refine wpQuiet_nil (hK _ ?_)
        clear hK K
        refine MixH.take 12 3 _ (undef) rfl (by kernel_rfl) (by kernel_rfl) (by kernel_rfl) (by kernel_rfl) (.inr ⟨rfl, rfl⟩) hS (fun a' ha => ?_)
        simp only [Act.put, List.setIfInBounds_toArray, List.set_cons_succ, List.set_cons_zero] at ha
        subst ha
        refine MixH.takes [false, false, false, false, true, true, true] 9 (by kernel_rfl) (by kernel_rfl) (by decide) (by kernel_rfl) hS (fun K hK => ?_)
        simp only [Mix.pick]
        repeat (go_big_quiet_step (fail))
        refine wpQuiet_nil (hK _ ?_)
        clear hK K
        refine MixH.take 8 7 _ (undef) rfl (by kernel_rfl) (by kernel_rfl) (by kernel_rfl) (by kernel_rfl) (.inr ⟨rfl, rfl⟩) hS (fun a' ha => ?_)
        simp only [Act.put, List.setIfInBounds_toArray, List.set_cons_succ, List.set_cons_zero] at ha
        subst ha
        refine MixH.takes [false, false, false, false, false, false, false, false, false, true, true, true] 5 (by kernel_rfl) (by kernel_rfl) (by decide) (by kernel_rfl) hS (fun K hK => ?_)
        simp only [Mix.pick]
        repeat (go_big_quiet_step (fail))
        refine wpQuiet_nil (hK _ ?_)
        clear hK K
        refine MixH.take 4 12 _ (undef) rfl (by kernel_rfl) (by kernel_rfl) (by kernel_rfl) (by kernel_rfl) (.inr ⟨rfl, rfl⟩) hS (fun a' ha => ?_)
        simp only [Act.put, List.setIfInBounds_toArray, List.set_cons_succ, List.set_cons_zero] at ha
        subst ha
        refine MixH.take 3 8 _ (undef) rfl (by kernel_rfl) (by kernel_rfl) (by kernel_rfl) (by kernel_rfl) (.inr ⟨rfl, rfl⟩) hS (fun a' ha => ?_)
        simp only [Act.put, List.setIfInBounds_toArray, List.set_cons_succ, List.set_cons_zero] at ha
        subst ha
        refine MixH.takes [false, false, false, false, false, false, false, false, false, false, false, false, false, true, true, true] 0 (by kernel_rfl) (by kernel_rfl) (by decide) (by kernel_rfl) hS (fun K hK => ?_)
        simp only [Mix.pick]
        repeat (go_big_quiet_step (fail))
        refine wpQuiet_nil (hK _ ?_)
        clear hK K
        refine MixH.done (by kernel_rfl) ?_
        go_upto_region 6 with fail
        refine MixH.start (fun A => HAt A H s v ∧ PcAt A B P) (by kernel_rfl) ?_
        obtain ⟨wA6, hwA6⟩ : ∃ wA6, wA6 = wA4.drew := ⟨_, rfl⟩
        replace hS : HAt wA6 H s v ∧ PcAt wA6 B P := by rw [hwA6]; exact ⟨hS.1.ch (Ch.refl (fun _ => False) _).drew (fun _ _ => id), hS.2.ch (Ch.refl (fun _ => False) _).drew id⟩
        replace hb : Below w.heap.size w wA6 := by rw [hwA6]; exact drew_below hb
        rw [← hwA6]
        clear hwA6
        refine MixH.takes [true, true, true, true] 14 (by kernel_rfl) (by kernel_rfl) (by decide) (by kernel_rfl) hS (fun K hK => ?_)
        simp only [Mix.pick]
        repeat (go_big_quiet_step (fail))
        refine wpQuiet_nil (hK _ ?_)
        clear hK K
        refine MixH.take 13 4 _ (.bool false) rfl (by kernel_rfl) (by kernel_rfl) (by kernel_rfl) (by kernel_rfl) (yields_bool (.tmp 46) rfl ⟨B, 2, none⟩ _ rfl rfl (fun A hA => (hA.2.cell 2).trans (by rw [HP.out]; rfl))) hS (fun a' ha => ?_)
        simp only [Act.put, List.setIfInBounds_toArray, List.set_cons_succ, List.set_cons_zero] at ha
        subst ha
        refine MixH.takes [false, false, false, false, false, true, true, true] 10 (by kernel_rfl) (by kernel_rfl) (by decide) (by kernel_rfl) hS (fun K hK => ?_)
        simp only [Mix.pick]
        repeat (go_big_quiet_step (fail))
        refine wpQuiet_nil (hK _ ?_)
        clear hK K
        refine MixH.take 9 8 _ (.agg P) rfl (by kernel_rfl) (by kernel_rfl) (by kernel_rfl) (by kernel_rfl) (yields_Pc (.tmp 3) rfl B P HP3.out rfl rfl (fun A hA => hA.2)) hS (fun a' ha => ?_)
        simp only [Act.put, List.setIfInBounds_toArray, List.set_cons_succ, List.set_cons_zero] at ha
        subst ha
        refine MixH.takes [false, false, false, false, false, false, false, false, false, false, true, true, true] 6 (by kernel_rfl) (by kernel_rfl) (by decide) (by kernel_rfl) hS (fun K hK => ?_)
        simp only [Mix.pick]
        repeat (go_big_quiet_step (fail))
        refine wpQuiet_nil (hK _ ?_)
        clear hK K
        refine MixH.take 5 13 _ (.slice ba L bc) rfl (by kernel_rfl) (by kernel_rfl) (by kernel_rfl) (by kernel_rfl) (yields_bytes (.tmp 55) rfl ⟨H, 2, none⟩ _ rfl rfl (fun A hA => hA.1.c2.trans (congrArg some HBV.out))) hS (fun a' ha => ?_)
        simp only [Act.put, List.setIfInBounds_toArray, List.set_cons_succ, List.set_cons_zero] at ha
        subst ha
        refine MixH.takes [false, false, false, false, false, false, false, false, false, false, false, false, false, false, true] 4 (by kernel_rfl) (by kernel_rfl) (by decide) (by kernel_rfl) hS (fun K hK => ?_)
        simp only [Mix.pick]
        repeat (go_big_quiet_step (fail))
        refine wpQuiet_nil (hK _ ?_)
        clear hK K
        refine MixH.one [false, false, false, false, false, false, false, false, false, true] 3 9 _ rfl rfl (by kernel_rfl) (by kernel_rfl) (fun K hK => ?_)
        simp only [Mix.pick]
        go_wp2_with fail
        refine Calls.mono (QE.out _) ?_
        rintro e wE6 ⟨rfl, hbE⟩
        replace hS : HAt wE6 H s v ∧ PcAt wE6 B P := ⟨hS.1.below hbE, hS.2.below hbE⟩
        replace hb : Below w.heap.size w wE6 := hb.trans (hbE.mono hb.size)
        clear hbE
        go_wp2
        refine ⟨rfl, hK _ _ hS ?_⟩
        clear hK K
        refine MixH.takes [false, false, false, false, false, false, false, false, false, false, false, false, false, false, false, true, true, true] 0 (by kernel_rfl) (by kernel_rfl) (by decide) (by kernel_rfl) hS (fun K hK => ?_)
        simp only [Mix.pick]
        repeat (go_big_quiet_step (fail))
        refine wpQuiet_nil (hK _ ?_)
        clear hK K
        refine MixH.done (by kernel_rfl) ?_
        go_wp2
        go_ret
        exact ⟨by rw [HR.out]; rfl, hb⟩
    · have HR : Hid (E = 0) := by show E = 0; rw [HE.out]; unfold rfE; rw [if_neg (by have := HK.out; omega), if_neg (by simp), if_neg (by simp)]
      clear HE
      go_enter Try.func48, Try.ntmps48
      go_upto_region 1 with fail
      rw [HWW.out, HBB.out]
      go_upto_region 2 with fail
      first | rw [HKI.out] | rw [HKD.out]
      refine MixH.start (fun A => HAt A H s v ∧ PcAt A B P) (by kernel_rfl) ?_
      obtain ⟨wA2, hwA2⟩ : ∃ wA2, wA2 = W.drew := ⟨_, rfl⟩
      replace hS : HAt wA2 H s v ∧ PcAt wA2 B P := by rw [hwA2]; exact ⟨hS.1.ch (Ch.refl (fun _ => False) _).drew (fun _ _ => id), hS.2.ch (Ch.refl (fun _ => False) _).drew id⟩
      replace hb : Below w.heap.size w wA2 := by rw [hwA2]; exact drew_below hb
      rw [← hwA2]
      clear hwA2
      refine MixH.takes [true, true, true] 12 (by kernel_rfl) (by kernel_rfl) (by decide) (by kernel_rfl) hS (fun K hK => ?_)
      simp only [Mix.pick]
      repeat (go_big_quiet_step (fail))
      refine wpQuiet_nil (hK _ ?_)
      clear hK K
      refine MixH.take 11 3 _ (undef) rfl (by kernel_rfl) (by kernel_rfl) (by kernel_rfl) (by kernel_rfl) (.inr ⟨rfl, rfl⟩) hS (fun a' ha => ?_)
      simp only [Act.put, List.setIfInBounds_toArray, List.set_cons_succ, List.set_cons_zero] at ha
      subst ha
      refine MixH.takes [false, false, false, false, true, true] 9 (by kernel_rfl) (by kernel_rfl) (by decide) (by kernel_rfl) hS (fun K hK => ?_)
      simp only [Mix.pick]
      repeat (go_big_quiet_step (fail))
      refine wpQuiet_nil (hK _ ?_)
      clear hK K
      refine MixH.take 8 6 _ (undef) rfl (by kernel_rfl) (by kernel_rfl) (by kernel_rfl) (by kernel_rfl) (.inr ⟨rfl, rfl⟩) hS (fun a' ha => ?_)
      simp only [Act.put, List.setIfInBounds_toArray, List.set_cons_succ, List.set_cons_zero] at ha
      subst ha
      refine MixH.takes [false, false, false, false, false, false, false, false, true, true, true] 5 (by kernel_rfl) (by kernel_rfl) (by decide) (by kernel_rfl) hS (fun K hK => ?_)
      simp only [Mix.pick]
      repeat (go_big_quiet_step (fail))
      refine wpQuiet_nil (hK _ ?_)
      clear hK K
      refine MixH.take 4 11 _ (undef) rfl (by kernel_rfl) (by kernel_rfl) (by kernel_rfl) (by kernel_rfl) (.inr ⟨rfl, rfl⟩) hS (fun a' ha => ?_)
      simp only [Act.put, List.setIfInBounds_toArray, List.set_cons_succ, List.set_cons_zero] at ha
      subst ha
      refine MixH.take 3 7 _ (undef) rfl (by kernel_rfl) (by kernel_rfl) (by kernel_rfl) (by kernel_rfl) (.inr ⟨rfl, rfl⟩) hS (fun a' ha => ?_)
      simp only [Act.put, List.setIfInBounds_toArray, List.set_cons_succ, List.set_cons_zero] at ha
      subst ha
      refine MixH.takes [false, false, false, false, false, false, false, false, false, false, false, false, true, true, true] 0 (by kernel_rfl) (by kernel_rfl) (by decide) (by kernel_rfl) hS (fun K hK => ?_)
      simp only [Mix.pick]
      repeat (go_big_quiet_step (fail))
      refine wpQuiet_nil (hK _ ?_)
      clear hK K
      refine MixH.done (by kernel_rfl) ?_
      go_upto_region 4 with fail
      refine MixH.start (fun A => HAt A H s v ∧ PcAt A B P) (by kernel_rfl) ?_
      obtain ⟨wA4, hwA4⟩ : ∃ wA4, wA4 = wA2.drew := ⟨_, rfl⟩
      replace hS : HAt wA4 H s v ∧ PcAt wA4 B P := by rw [hwA4]; exact ⟨hS.1.ch (Ch.refl (fun _ => False) _).drew (fun _ _ => id), hS.2.ch (Ch.refl (fun _ => False) _).drew id⟩
      replace hb : Below w.heap.size w wA4 := by rw [hwA4]; exact drew_below hb
      rw [← hwA4]
      clear hwA4
      refine MixH.takes [true, true, true] 13 (by kernel_rfl) (by kernel_rfl) (by decide) (by kernel_rfl) hS (fun K hK => ?_)
      simp only [Mix.pick]
      repeat (go_big_quiet_step (fail))
      refine wpQuiet_nil (hK _ ?_)
      clear hK K
      refine MixH.take 12 3 _ (undef) rfl (by kernel_rfl) (by kernel_rfl) (by kernel_rfl) (by kernel_rfl) (.inr ⟨rfl, rfl⟩) hS (fun a' ha => ?_)
      simp only [Act.put, List.setIfInBounds_toArray, List.set_cons_succ, List.set_cons_zero] at ha
      subst ha
      refine MixH.takes [false, false, false, false, true, true, true] 9 (by kernel_rfl) (by kernel_rfl) (by decide) (by kernel_rfl) hS (fun K hK => ?_)
      simp only [Mix.pick]
      repeat (go_big_quiet_step (fail))
      refine wpQuiet_nil (hK _ ?_)
      clear hK K
      refine MixH.take 8 7 _ (undef) rfl (by kernel_rfl) (by kernel_rfl) (by kernel_rfl) (by kernel_rfl) (.inr ⟨rfl, rfl⟩) hS (fun a' ha => ?_)
      simp only [Act.put, List.setIfInBounds_toArray, List.set_cons_succ, List.set_cons_zero] at ha
      subst ha
      refine MixH.takes [false, false, false, false, false, false, false, false, false, true, true, true] 5 (by kernel_rfl) (by kernel_rfl) (by decide) (by kernel_rfl) hS (fun K hK => ?_)
      simp only [Mix.pick]
      repeat (go_big_quiet_step (fail))
      refine wpQuiet_nil (hK _ ?_)
      clear hK K
      refine MixH.take 4 12 _ (undef) rfl (by kernel_rfl) (by kernel_rfl) (by kernel_rfl) (by kernel_rfl) (.inr ⟨rfl, rfl⟩) hS (fun a' ha => ?_)
      simp only [Act.put, List.setIfInBounds_toArray, List.set_cons_succ, List.set_cons_zero] at ha
      subst ha
      refine MixH.take 3 8 _ (undef) rfl (by kernel_rfl) (by kernel_rfl) (by kernel_rfl) (by kernel_rfl) (.inr ⟨rfl, rfl⟩) hS (fun a' ha => ?_)
      simp only [Act.put, List.setIfInBounds_toArray, List.set_cons_succ, List.set_cons_zero] at ha
      subst ha
      refine MixH.takes [false, false, false, false, false, false, false, false, false, false, false, false, false, true, true, true] 0 (by kernel_rfl) (by kernel_rfl) (by decide) (by kernel_rfl) hS (fun K hK => ?_)
      simp only [Mix.pick]
      repeat (go_big_quiet_step (fail))
      refine wpQuiet_nil (hK _ ?_)
      clear hK K
      refine MixH.done (by kernel_rfl) ?_
      go_upto_region 6 with fail
      refine MixH.start (fun A => HAt A H s v ∧ PcAt A B P) (by kernel_rfl) ?_
      obtain ⟨wA6, hwA6⟩ : ∃ wA6, wA6 = wA4.drew := ⟨_, rfl⟩
      replace hS : HAt wA6 H s v ∧ PcAt wA6 B P := by rw [hwA6]; exact ⟨hS.1.ch (Ch.refl (fun _ => False) _).drew (fun _ _ => id), hS.2.ch (Ch.refl (fun _ => False) _).drew id⟩
      replace hb : Below w.heap.size w wA6 := by rw [hwA6]; exact drew_below hb
      rw [← hwA6]
      clear hwA6
      refine MixH.takes [true, true, true, true] 14 (by kernel_rfl) (by kernel_rfl) (by decide) (by kernel_rfl) hS (fun K hK => ?_)
      simp only [Mix.pick]
      repeat (go_big_quiet_step (fail))
      refine wpQuiet_nil (hK _ ?_)
      clear hK K
      refine MixH.take 13 4 _ (.bool true) rfl (by kernel_rfl) (by kernel_rfl) (by kernel_rfl) (by kernel_rfl) (yields_bool (.tmp 46) rfl ⟨B, 2, none⟩ _ rfl rfl (fun A hA => (hA.2.cell 2).trans (by rw [HP.out]; rfl))) hS (fun a' ha => ?_)
      simp only [Act.put, List.setIfInBounds_toArray, List.set_cons_succ, List.set_cons_zero] at ha
      subst ha
      refine MixH.takes [false, false, false, false, false, true, true, true] 10 (by kernel_rfl) (by kernel_rfl) (by decide) (by kernel_rfl) hS (fun K hK => ?_)
      simp only [Mix.pick]
      repeat (go_big_quiet_step (fail))
      refine wpQuiet_nil (hK _ ?_)
      clear hK K
      refine MixH.take 9 8 _ (undef) rfl (by kernel_rfl) (by kernel_rfl) (by kernel_rfl) (by kernel_rfl) (.inr ⟨rfl, rfl⟩) hS (fun a' ha => ?_)
      simp only [Act.put, List.setIfInBounds_toArray, List.set_cons_succ, List.set_cons_zero] at ha
      subst ha
      refine MixH.takes [false, false, false, false, false, false, false, false, false, false, true, true, true] 6 (by kernel_rfl) (by kernel_rfl) (by decide) (by kernel_rfl) hS (fun K hK => ?_)
      simp only [Mix.pick]
      repeat (go_big_quiet_step (fail))
      refine wpQuiet_nil (hK _ ?_)
      clear hK K
      refine MixH.take 5 13 _ (undef) rfl (by kernel_rfl) (by kernel_rfl) (by kernel_rfl) (by kernel_rfl) (.inr ⟨rfl, rfl⟩) hS (fun a' ha => ?_)
      simp only [Act.put, List.setIfInBounds_toArray, List.set_cons_succ, List.set_cons_zero] at ha
      subst ha
      refine MixH.take 4 9 _ (undef) rfl (by kernel_rfl) (by kernel_rfl) (by kernel_rfl) (by kernel_rfl) (.inr ⟨rfl, rfl⟩) hS (fun a' ha => ?_)
      simp only [Act.put, List.setIfInBounds_toArray, List.set_cons_succ, List.set_cons_zero] at ha
      subst ha
      refine MixH.takes [false, false, false, false, false, false, false, false, false, false, false, false, false, false, true] 3 (by kernel_rfl) (by kernel_rfl) (by decide) (by kernel_rfl) hS (fun K hK => ?_)
      simp only [Mix.pick]
      repeat (go_big_quiet_step (fail))
      refine wpQuiet_nil (hK _ ?_)
      clear hK K
      refine MixH.takes [false, false, false, false, false, false, false, false, false, false, false, false, false, false, false, true, true, true] 0 (by kernel_rfl) (by kernel_rfl) (by decide) (by kernel_rfl) hS (fun K hK => ?_)
      simp only [Mix.pick]
      repeat (go_big_quiet_step (fail))
      refine wpQuiet_nil (hK _ ?_)
      clear hK K
      refine MixH.done (by kernel_rfl) ?_
      go_wp2
      go_ret
      exact ⟨by rw [HR.out]; rfl, hb⟩

end H11
end Go.Proofs.Ytcoaghcmbhogjaa
