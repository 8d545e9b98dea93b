/-
  targetMayBe.
-/
import Derived.Test.YtijipfciimcnpaaDoorI8Cls
namespace Go.Proofs.YtijipfciimcnpaaDoor
open Go.RowKit

def tmB (V : Int) (x : Nat → Nat) : Bool := V == 6 && clsA V x != 0 && clsA V x != 3 && clsA V x != 1
set_option maxHeartbeats 800000 in
set_option maxRecDepth 100000 in
theorem target_any (V : Int) (x : Nat → Nat) (w : World) (hx : ∀ i, i < 16 → x i < 256) (hs : Spe8 w) : Calls Tryd.prog 38 #[.agg (ipCells V x)] w fun e w' => e = .returned (.bool (tmB V x)) ∧ Below w.heap.size w w' := by
  have hb := boxed_new w V x 24
  have bel : Below w.heap.size w (w.alloc (.cells (ipCells V x) 24)) := (Below.refl _ _).alloc (Nat.le_refl _) _
  obtain ⟨C, hC⟩ : ∃ C, C = ipCells V x := ⟨_, rfl⟩
  rw [← hC] at hb bel
  obtain ⟨W, hW⟩ : ∃ W, W = w.alloc (.cells C 24) := ⟨_, rfl⟩
  rw [← hW] at hb bel
  obtain ⟨B, hB⟩ : ∃ B, B = w.heap.size := ⟨_, rfl⟩
  rw [← hB] at hb
  have HB : Hid (w.heap.size = B) := hB.symm
  have HW : Hid (w.alloc (.cells C 24) = W) := hW.symm
  have HBX : Hid (Boxed W B V x) := hb
  have QC : Hid _ := class_any V x W hx (hs.old bel)
  rw [← hC]
  clear hb hW hB hC hx hs
  go_enter Tryd.func38, Tryd.ntmps38
  go_upto_region 1 with fail
  rw [HB.out, HW.out]
  go_wp2_with (first | (refine wpList_load_ip (.tmp 1) rfl B V x rfl HBX.out rfl ?_))
  refine Calls.mono QC.out ?_
  rintro e w1 ⟨rfl, hb1⟩
  have bel1 := bthen bel hb1
  have k0 : w1.cell? ⟨B, 0, none⟩ = some (.int .i64 V) := (HBX.out.old hb1).ver
  have HT : Hid (tmB V x = (V == 6 && clsA V x != 0 && clsA V x != 3 && clsA V x != 1)) := rfl
  obtain ⟨c, hc⟩ : ∃ c, c = clsA V x := ⟨_, rfl⟩
  rw [← hc] at HT ⊢
  clear hb1 HBX hc bel QC
  by_cases h6 : V = 6
  · subst h6
    by_cases c0 : c = 0
    · subst c0
      go_wp2
      go_ret
      exact ⟨by rw [HT.out]; rfl, bel1⟩
    · have d0 : (c == 0) = false := beq_eq_false_iff_ne.2 c0
      by_cases c3 : c = 3
      · subst c3
        go_wp2
        go_ret
        exact ⟨by rw [HT.out]; rfl, bel1⟩
      · have d3 : (c == 3) = false := beq_eq_false_iff_ne.2 c3
        by_cases c1 : c = 1
        · subst c1
          go_wp2
          go_ret
          exact ⟨by rw [HT.out]; rfl, bel1⟩
        · have d1 : (c == 1) = false := beq_eq_false_iff_ne.2 c1
          clear d0 d3 d1
          go_wp2
          go_ret
          exact ⟨by rw [HT.out]; rfl, bel1⟩
  · have e6 : (V == 6) = false := beq_eq_false_iff_ne.2 h6
    have HE : Hid (tmB V x = false) := by rw [HT.out, e6]; rfl
    clear h6 HT
    go_wp2
    go_ret
    exact ⟨by rw [HE.out]; rfl, bel1⟩
end Go.Proofs.YtijipfciimcnpaaDoor
