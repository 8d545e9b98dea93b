/-
  The statements' awake: it answers true.
-/
import Derived.Test.YtkhalknpfikghaaDoorI8Start
namespace Go.Proofs.YtkhalknpfikghaaDoor
open Go.RowKit
open I8 (M8)

def eB : List Nat := [8, 0, 247, 253, 0, 1, 0, 1]
def eX : List Nat := [8, 0, 247, 254, 0, 1, 0, 1]
theorem echo_ser : I8.ser mEcho [] = eB := by decide
theorem echo_sE : I8.sE mEcho (six6 0 0) = 0 := by decide
theorem eB_pE : I8.pE 4 (six6 0 0) [] eB = 0 := by decide
theorem eX_pE : I8.pE 4 (six6 0 0) [] eX = 81 := by decide
theorem eB_pM : I8.pM 4 eB = mEcho := rfl
theorem seg_eB (w : World) : Seg .u8 (w.alloc (.cells #[.int .u8 8, .int .u8 0, .int .u8 247, .int .u8 253, .int .u8 0, .int .u8 1, .int .u8 0, .int .u8 1] 5)) (some ⟨w.heap.size, 0, none⟩) (toI eB) := seg_newz w (toI eB) _
theorem seg_eX (w : World) : Seg .u8 (w.alloc (.cells #[.int .u8 8, .int .u8 0, .int .u8 247, .int .u8 254, .int .u8 0, .int .u8 1, .int .u8 0, .int .u8 1] 5)) (some ⟨w.heap.size, 0, none⟩) (toI eX) := seg_newz w (toI eX) _
theorem echo_ok (w : World) : MOk w mEcho none 0 0 := ⟨rfl, .inl rfl, (by intro x hx; cases hx), (by omega), (by omega), (by omega)⟩
set_option maxHeartbeats 6400000 in
set_option maxRecDepth 100000 in
theorem awake_any (w : World) (hw : Wid8 w) (hd : Dis8 w) : Calls Tryd.prog 6 #[] w fun e w' => e = .returned (.bool true) ∧ Below w.heap.size w w' := by
  have Hx0 : Hid (∀ i, i < 16 → (fun _ : Nat => 0) i < 256) := fun i _ => by show 0 < 256; omega
  have HWID : Hid (∀ A, Below w.heap.size w A → Wid8 A) := fun A hA => hw.old hA
  have HPB : Hid (∀ n, psB 4 0 0 (fun _ => 0) (fun _ => 0) n = []) := fun n => rfl
  have HQS : Hid (∀ W, Wid8 W → Calls Tryd.prog 7 #[.agg (ipCells 0 (fun _ => 0)), .agg (ipCells 0 (fun _ => 0)), .agg (mC mEcho none 0 0)] W fun e w' => ∃ g, e = .returned (.tuple #[.slice (some ⟨g, 0, none⟩) 8 8, .int .i64 0]) ∧ Below W.heap.size W w' ∧ Seg .u8 w' (some ⟨g, 0, none⟩) (toI eB)) := by
    intro W hW
    refine (icSer_any 0 0 (fun _ => 0) (fun _ => 0) mEcho none 0 0 W hW (echo_ok W) Hx0.out Hx0.out).mono ?_
    rintro e w' ⟨v, er, rfl, he, hb, hs⟩
    rw [echo_sE] at he
    subst he
    rcases hs with ⟨_, g, rfl, ho⟩ | ⟨h, _⟩
    · refine ⟨g, rfl, hb, ?_⟩
      have e2 : I8.ser mEcho (psB mEcho.v 0 0 (fun _ => 0) (fun _ => 0) (8 + 0)) = eB := echo_ser
      rw [e2] at ho
      exact (owns_seg_at ho).1
    · exact absurd rfl h
  have HQP : Hid (∀ (W : World) (ad : Option Addr), Wid8 W → Seg .u8 W ad (toI eB) → Calls Tryd.prog 8 #[.int .i64 4, .agg (ipCells 0 (fun _ => 0)), .agg (ipCells 0 (fun _ => 0)), .slice ad 8 8] W fun e w' => e = .returned (.tuple #[.agg (mC mEcho (cutA ad 8 0) 0 0), .int .i64 0]) ∧ Below W.heap.size W w') := by
    intro W ad hW hs
    refine (icParse_any 4 0 0 (fun _ => 0) (fun _ => 0) ad 8 8 eB W rfl hW (fun _ => hs) (by decide) (by omega) (by omega) Hx0.out Hx0.out).mono ?_
    rintro e w' ⟨er, rfl, hb, he⟩
    have h2 : er = 0 := by rw [he]; exact eB_pE
    subst h2
    exact ⟨rfl, hb⟩
  have HQX : Hid (∀ (W : World) (ad : Option Addr), Wid8 W → Seg .u8 W ad (toI eX) → Calls Tryd.prog 8 #[.int .i64 4, .agg (ipCells 0 (fun _ => 0)), .agg (ipCells 0 (fun _ => 0)), .slice ad 8 8] W fun e w' => e = .returned (.tuple #[.agg (mC m8z none 0 0), .int .i64 81]) ∧ Below W.heap.size W w') := by
    intro W ad hW hs
    refine (icParse_any 4 0 0 (fun _ => 0) (fun _ => 0) ad 8 8 eX W rfl hW (fun _ => hs) (by decide) (by omega) (by omega) Hx0.out Hx0.out).mono ?_
    rintro e w' ⟨er, rfl, hb, he⟩
    have h2 : er = 81 := by rw [he]; exact eX_pE
    subst h2
    exact ⟨rfl, hb⟩
  have QF : Hid _ := firsts_any w hw hd
  clear hw hd Hx0 HPB
  go_enter Tryd.func6, Tryd.ntmps6
  go_wp2_with fail
  refine Calls.mono QF.out ?_
  rintro e w1 ⟨rfl, bel1⟩
  clear QF
  go_wp2_with (first | (refine wpList_ip0_built rfl rfl ?_))
  refine Calls.mono (echo_any w1) ?_
  rintro e w2 ⟨rfl, hb2⟩
  have bel2 := bthen bel1 hb2
  clear hb2
  go_wp2_with fail
  refine Calls.mono (HQS.out w2 (HWID.out w2 bel2)) ?_
  rintro e w3 ⟨g, rfl, hb3, hseg⟩
  have bel3 := bthen bel2 hb3
  have HSG : Hid (Seg .u8 w3 (some ⟨g, 0, none⟩) (toI eB)) := hseg
  clear hb3 hseg HQS
  have hb4 : Below w3.heap.size w3 (w3.alloc (.cells #[.int .u8 8, .int .u8 0, .int .u8 247, .int .u8 253, .int .u8 0, .int .u8 1, .int .u8 0, .int .u8 1] 5)) := (Below.refl _ _).alloc (Nat.le_refl _) _
  have HS4 : Hid _ := seg_eB w3
  obtain ⟨w4, hw4⟩ : ∃ w4, w4 = w3.alloc (.cells #[.int .u8 8, .int .u8 0, .int .u8 247, .int .u8 253, .int .u8 0, .int .u8 1, .int .u8 0, .int .u8 1] 5) := ⟨_, rfl⟩
  have HW4 : Hid (w3.alloc (.cells #[.int .u8 8, .int .u8 0, .int .u8 247, .int .u8 253, .int .u8 0, .int .u8 1, .int .u8 0, .int .u8 1] 5) = w4) := hw4.symm
  rw [← hw4] at hb4 HS4
  have bel4 := bthen bel3 hb4
  have HSG4 : Hid (Seg .u8 w4 (some ⟨g, 0, none⟩) (toI eB)) := HSG.out.old hb4
  have Q4 : Hid _ := HQP.out w4 (some ⟨w3.heap.size, 0, none⟩) (HWID.out w4 bel4) HS4.out
  clear hw4 HSG bel3
  go_upto_region 4 with fail
  go_wp2_with (first | (refine wpList_ip0_built rfl rfl ?_))
  rw [HW4.out]
  refine Calls.mono Q4.out ?_
  rintro e w5 ⟨rfl, hb5⟩
  have bel5 := bthen bel4 hb5
  have HSG5 : Hid (Seg .u8 w5 (some ⟨g, 0, none⟩) (toI eB)) := HSG4.out.old hb5
  clear hb5 Q4 HW4 HSG4 hb4 bel4
  obtain ⟨ca, hca⟩ : ∃ ca, ca = cutA (some ⟨w3.heap.size, 0, none⟩) 8 0 := ⟨_, rfl⟩
  rw [← hca]
  clear hca
  go_upto_region 5 with (first | (refine wpList_alloc_m8 rfl rfl ?_) | (refine wpList_store_m8 (.tmp 3) (.tmp 21) rfl rfl w5.heap.size m8z mEcho none ca 0 0 0 0 rfl rfl (mAt_new _ _ _ _ _) rfl ?_))
  intro w6 hR6 k6
  have hb6 : Below w5.heap.size w5 w6 := ((Below.refl _ _).alloc (Nat.le_refl _) _).trans (k6.below (fun q e => by have e' : q = w5.heap.size := e; omega) (by simp))
  have bel6 := bthen bel5 hb6
  obtain ⟨P, hP⟩ : ∃ P, P = w5.heap.size := ⟨_, rfl⟩
  rw [← hP] at hR6 ⊢
  have HM6 : Hid (MAt w6 P mEcho ca 0 0) := hR6
  have HSG6 : Hid (Seg .u8 w6 (some ⟨g, 0, none⟩) (toI eB)) := HSG5.out.old hb6
  clear hR6 k6 hb6 HSG5 bel5 hP
  have hb7 : Below w6.heap.size w6 (w6.alloc (.cells #[.int .u8 8, .int .u8 0, .int .u8 247, .int .u8 254, .int .u8 0, .int .u8 1, .int .u8 0, .int .u8 1] 5)) := (Below.refl _ _).alloc (Nat.le_refl _) _
  have HS7 : Hid _ := seg_eX w6
  obtain ⟨w7, hw7⟩ : ∃ w7, w7 = w6.alloc (.cells #[.int .u8 8, .int .u8 0, .int .u8 247, .int .u8 254, .int .u8 0, .int .u8 1, .int .u8 0, .int .u8 1] 5) := ⟨_, rfl⟩
  have HW7 : Hid (w6.alloc (.cells #[.int .u8 8, .int .u8 0, .int .u8 247, .int .u8 254, .int .u8 0, .int .u8 1, .int .u8 0, .int .u8 1] 5) = w7) := hw7.symm
  rw [← hw7] at hb7 HS7
  have bel7 := bthen bel6 hb7
  have HSG7 : Hid (Seg .u8 w7 (some ⟨g, 0, none⟩) (toI eB)) := HSG6.out.old hb7
  have HM7 : Hid (MAt w7 P mEcho ca 0 0) := HM6.out.below hb7
  have Q7 : Hid _ := HQX.out w7 (some ⟨w6.heap.size, 0, none⟩) (HWID.out w7 bel7) HS7.out
  clear hw7 HSG6 HM6 bel6 hb7
  go_upto_region 5 with fail
  go_wp2_with (first | (refine wpList_ip0_built rfl rfl ?_))
  rw [HW7.out]
  refine Calls.mono Q7.out ?_
  rintro e w8 ⟨rfl, hb8⟩
  have bel8 := bthen bel7 hb8
  have HSG8 : Hid (Seg .u8 w8 (some ⟨g, 0, none⟩) (toI eB)) := HSG7.out.old hb8
  have HM8 : Hid (MAt w8 P mEcho ca 0 0) := HM7.out.below hb8
  clear hb8 Q7 HW7 HSG7 HM7 bel7
  go_upto_region 6 with (first | (refine wpList_alloc_m8 rfl rfl ?_) | (refine wpList_store_m8 (.tmp 5) (.tmp 28) rfl rfl w8.heap.size m8z m8z none none 0 0 0 0 rfl rfl (mAt_new _ _ _ _ _) rfl ?_))
  intro w9 hR9 k9
  have hb9 : Below w8.heap.size w8 w9 := ((Below.refl _ _).alloc (Nat.le_refl _) _).trans (k9.below (fun q e => by have e' : q = w8.heap.size := e; omega) (by simp))
  have bel9 := bthen bel8 hb9
  have HSG9 : Hid (Seg .u8 w9 (some ⟨g, 0, none⟩) (toI eB)) := HSG8.out.old hb9
  have HM9 : Hid (MAt w9 P mEcho ca 0 0) := HM8.out.below hb9
  clear hR9 k9 hb9 HSG8 HM8 bel8
  go_upto_region 6 with fail
  refine MixH.start (fun A => Below w9.heap.size w9 A) (by kernel_rfl) ?_
  obtain ⟨wA, hwA⟩ : ∃ wA, wA = w9.drew := ⟨_, rfl⟩
  have hS : Below w9.heap.size w9 wA := by rw [hwA]; exact (Below.refl _ _).drew
  rw [← hwA]
  clear hwA
  refine MixH.takes [true, true, true, true, true, true, true, true, true, true, true] 10 (by kernel_rfl) (by kernel_rfl) (by decide) (by kernel_rfl) hS (fun K hK => ?_)
  simp only [Mix.pick]
  repeat (go_big_quiet_step (fail))
  refine wpQuiet_nil (hK _ ?_)
  clear hK K
  refine MixH.take 9 11 _ (.agg (mC mEcho ca 0 0)) rfl (by kernel_rfl) (by kernel_rfl) (by kernel_rfl) (by kernel_rfl) (yields_m8 (.tmp 3) rfl P mEcho ca 0 0 rfl rfl (fun A hA => HM9.out.below hA)) hS (fun a' ha => ?_)
  simp only [Act.put, List.setIfInBounds_toArray, List.set_cons_succ, List.set_cons_zero] at ha
  subst ha
  refine MixH.one [false, false, false, false, false, false, false, false, false, false, false, false, true] 8 12 _ rfl rfl (by kernel_rfl) (by kernel_rfl) (fun K hK => ?_)
  simp only [Mix.pick]
  go_wp2_with fail
  refine Calls.mono (echo_any wA) ?_
  rintro e x1 ⟨rfl, hb1⟩
  replace hS := bthen hS hb1
  clear hb1
  go_wp2
  refine ⟨rfl, hK _ _ hS ?_⟩
  clear hK K
  refine MixH.one [false, false, false, false, false, false, false, false, false, false, false, false, false, true] 7 13 _ rfl rfl (by kernel_rfl) (by kernel_rfl) (fun K hK => ?_)
  simp only [Mix.pick]
  go_wp2_with fail
  refine Calls.mono (mSame_true mEcho ca none 0 0 0 x1 rfl (.inl rfl) (.inl rfl) (by omega)) ?_
  rintro e x2 ⟨rfl, hb1⟩
  replace hS := bthen hS hb1
  clear hb1
  go_wp2
  refine ⟨rfl, hK _ _ hS ?_⟩
  clear hK K
  refine MixH.takes [false, false, false, false, false, false, false, false, false, false, false, false, false, false, true, true, true] 4 (by kernel_rfl) (by kernel_rfl) (by decide) (by kernel_rfl) hS (fun K hK => ?_)
  simp only [Mix.pick]
  repeat (go_big_quiet_step (fail))
  refine wpQuiet_nil (hK _ ?_)
  clear hK K
  refine MixH.one [false, false, false, false, false, false, false, false, false, false, false, false, false, false, false, false, false, true] 3 17 _ rfl rfl (by kernel_rfl) (by kernel_rfl) (fun K hK => ?_)
  simp only [Mix.pick]
  have hSn := bthen hS ((Below.refl x2.heap.size x2).alloc (Nat.le_refl _) (.cells #[.int .u8 8, .int .u8 0, .int .u8 247, .int .u8 253, .int .u8 0, .int .u8 1, .int .u8 0, .int .u8 1] 5))
  have HS3 : Hid _ := seg_eB x2
  go_wp2
  clear hS
  have hS := hSn
  refine ⟨rfl, hK _ _ hS ?_⟩
  clear hK K
  obtain ⟨x3, hx3⟩ : ∃ x3, x3 = x2.alloc (.cells #[.int .u8 8, .int .u8 0, .int .u8 247, .int .u8 253, .int .u8 0, .int .u8 1, .int .u8 0, .int .u8 1] 5) := ⟨_, rfl⟩
  rw [← hx3] at hS HS3 ⊢
  clear hSn hx3
  refine MixH.one [false, false, false, false, false, false, false, false, false, false, false, false, false, false, false, false, false, false, true] 2 18 _ rfl rfl (by kernel_rfl) (by kernel_rfl) (fun K hK => ?_)
  simp only [Mix.pick]
  have Q1 := same8_any (some ⟨g, 0, none⟩) (some ⟨x2.heap.size, 0, none⟩) 8 8 8 8 eB eB x3 rfl rfl (HSG9.out.old hS) HS3.out (by omega)
  rw [decide_eq_true (rfl : eB = eB)] at Q1
  have Q2 : Hid _ := Q1
  clear Q1
  go_wp2_with fail
  refine Calls.mono Q2.out ?_
  rintro e x4 ⟨rfl, hb1⟩
  replace hS := bthen hS hb1
  clear hb1 Q2
  go_wp2
  refine ⟨rfl, hK _ _ hS ?_⟩
  clear hK K
  refine MixH.takes [false, false, false, false, false, false, false, false, false, false, false, false, false, false, false, false, false, false, false, true] 1 (by kernel_rfl) (by kernel_rfl) (by decide) (by kernel_rfl) hS (fun K hK => ?_)
  simp only [Mix.pick]
  repeat (go_big_quiet_step (fail))
  refine wpQuiet_nil (hK _ ?_)
  clear hK K
  refine MixH.takes [false, false, false, false, false, false, false, false, false, false, false, false, false, false, false, false, false, false, false, false, true] 0 (by kernel_rfl) (by kernel_rfl) (by decide) (by kernel_rfl) hS (fun K hK => ?_)
  simp only [Mix.pick]
  repeat (go_big_quiet_step (fail))
  refine wpQuiet_nil (hK _ ?_)
  clear hK K
  refine MixH.done (by kernel_rfl) ?_
  have HF : Hid (Below w.heap.size w x4) := bthen bel9 hS
  clear hS
  go_wp2
  go_ret
  exact ⟨rfl, HF.out⟩
end Go.Proofs.YtkhalknpfikghaaDoor
