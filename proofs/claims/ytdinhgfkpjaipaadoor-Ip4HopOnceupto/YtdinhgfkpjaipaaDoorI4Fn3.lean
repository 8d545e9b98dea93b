/-
  fieldsMayBe; the header is taken apart.
-/
import Derived.Test.YtdinhgfkpjaipaaDoorI4Fn2
import Derived.Test.YtdinhgfkpjaipaaDoorFields
namespace Go.Proofs.YtdinhgfkpjaipaaDoor
open Go.RowKit
open I4 (H4)

set_option maxHeartbeats 1600000 in
set_option maxRecDepth 100000 in
theorem fieldsMay_any (h : H4) (ol dl : Value) (w : World) (hs : ∀ i, i < 16 → h.sx i < 256) (hd : ∀ i, i < 16 → h.dx i < 256) :
    Calls Tryd.prog 58 #[.agg (h4C h ol dl)] w fun e w' => e = .returned (.bool (I4.fieldsOk h)) ∧ Below w.heap.size w w' := by
  obtain ⟨W, hW⟩ : ∃ W, W = w.alloc (.cells (h4C h ol dl) 28) := ⟨_, rfl⟩
  obtain ⟨O, hO⟩ : ∃ O, O = w.heap.size := ⟨_, rfl⟩
  have bel : Below w.heap.size w W := by rw [hW]; exact (Below.refl _ _).alloc (Nat.le_refl _) _
  have box : H4At W O h ol dl := by rw [hW, hO]; exact h4At_new _ _ _ _
  have c0 := box.c0
  have c1 := box.c1
  have c4 := box.c4
  have c5 := box.c5
  have c6 := box.c6
  have SRC : Hid _ := box.src
  have HB : Hid (H4At W O h ol dl) := box
  obtain ⟨C, hC⟩ : ∃ C, C = h4C h ol dl := ⟨_, rfl⟩
  have HW : Hid (w.alloc (.cells C 28) = W) := by rw [hC]; exact hW.symm
  have HO : Hid (w.heap.size = O) := hO.symm
  rw [← hC]
  obtain ⟨R, hR⟩ : ∃ R, R = I4.fieldsOk h := ⟨_, rfl⟩
  rw [← hR]
  have HR : Hid (R = I4.fieldsOk h) := hR
  have HS : Hid _ := hs
  have HD : Hid _ := hd
  clear hW hC hO box hR hs hd
  go_enter Tryd.func58, Tryd.ntmps58
  go_upto_region 1 with fail
  rw [HW.out, HO.out]
  go_wp2_with fail
  refine Calls.mono (within_any h.tos 255 W) ?_
  rintro e w' ⟨rfl, rfl⟩
  cases b0 : I4.within h.tos 255 with
  | false =>
    have HRf : Hid (R = false) := by show _ = _; rw [HR.out]; simp [I4.fieldsOk, b0]
    go_wp2
    go_ret
    exact ⟨by rw [HRf.out]; rfl, bel⟩
  | true =>
  go_wp2_with fail
  refine Calls.mono (within_any h.id 65535 W) ?_
  rintro e w' ⟨rfl, rfl⟩
  cases b1 : I4.within h.id 65535 with
  | false =>
    have HRf : Hid (R = false) := by show _ = _; rw [HR.out]; simp [I4.fieldsOk, b1]
    go_wp2
    go_ret
    exact ⟨by rw [HRf.out]; rfl, bel⟩
  | true =>
  go_wp2_with fail
  refine Calls.mono (within_any h.off 65528 W) ?_
  rintro e w' ⟨rfl, rfl⟩
  cases b2 : I4.within h.off 65528 with
  | false =>
    have HRf : Hid (R = false) := by show _ = _; rw [HR.out]; simp [I4.fieldsOk, b2]
    go_wp2
    go_ret
    exact ⟨by rw [HRf.out]; rfl, bel⟩
  | true =>
  have hof : 0 ≤ h.off ∧ h.off ≤ 65528 := by simpa [I4.within] using b2
  obtain ⟨hof0, hof1⟩ := hof
  cases b3 : decide (h.off % 8 = 0) with
  | false =>
    have e8 : (h.off % 8 == 0) = false := b3
    have HRf : Hid (R = false) := by show _ = _; rw [HR.out]; simp only [I4.fieldsOk, b3, Bool.and_false, Bool.false_and]
    go_wp2
    go_ret
    exact ⟨by rw [HRf.out]; rfl, bel⟩
  | true =>
  have e8 : (h.off % 8 == 0) = true := b3
  go_wp2_with fail
  refine Calls.mono (within_any h.ttl 255 W) ?_
  rintro e w' ⟨rfl, rfl⟩
  cases b4 : I4.within h.ttl 255 with
  | false =>
    have HRf : Hid (R = false) := by show _ = _; rw [HR.out]; simp [I4.fieldsOk, b4]
    go_wp2
    go_ret
    exact ⟨by rw [HRf.out]; rfl, bel⟩
  | true =>
  go_wp2_with fail
  refine Calls.mono (within_any h.proto 255 W) ?_
  rintro e w' ⟨rfl, rfl⟩
  cases b5 : I4.within h.proto 255 with
  | false =>
    have HRf : Hid (R = false) := by show _ = _; rw [HR.out]; simp [I4.fieldsOk, b5]
    go_wp2
    go_ret
    exact ⟨by rw [HRf.out]; rfl, bel⟩
  | true =>
  go_wp2_with (first | (refine wpList_load_src _ rfl O 7 h.sv h.sx rfl SRC.out rfl ?_))
  refine Calls.mono (isFour_any h.sv h.sx W HS.out) ?_
  rintro e w1 ⟨rfl, hb1⟩
  have DST : Hid _ := (H4At.below HB.out hb1).dst
  have bel1 := bthen bel hb1
  clear hb1 c0 c1 c4 c5 c6
  cases b6 : I4.four h.sv h.sx with
  | false =>
    have HRf : Hid (R = false) := by show _ = _; rw [HR.out]; simp only [I4.fieldsOk, b6, Bool.and_false, Bool.false_and]
    go_wp2
    go_ret
    exact ⟨by rw [HRf.out]; rfl, bel1⟩
  | true =>
  go_wp2_with (first | (refine wpList_load_src _ rfl O 24 h.dv h.dx rfl DST.out rfl ?_))
  refine Calls.mono (isFour_any h.dv h.dx w1 HD.out) ?_
  rintro e w2 ⟨rfl, hb2⟩
  have bel2 := bthen bel1 hb2
  have HRf : Hid (R = I4.four h.dv h.dx) := by show _ = _; rw [HR.out]; simp only [I4.fieldsOk, b0, b1, b2, b3, b4, b5, b6, Bool.and_true, Bool.true_and]
  go_wp2
  go_ret
  exact ⟨by rw [HRf.out]; rfl, bel2⟩
end Go.Proofs.YtdinhgfkpjaipaaDoor
