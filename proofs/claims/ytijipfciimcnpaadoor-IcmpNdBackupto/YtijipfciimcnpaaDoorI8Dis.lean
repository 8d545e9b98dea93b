/-
  discoveryOf: the discovery of which a message is.
-/
import Derived.Test.YtijipfciimcnpaaDoorI8Nd1
namespace Go.Proofs.YtijipfciimcnpaaDoor
open Go.RowKit
open I8 (M8)

/-- the kind of a message -/
def mkD (m : M8) : Int := if m.v = 6 ∧ m.c = 0 then (if m.t = 135 then 1 else if m.t = 136 then 2 else 0) else 0
set_option maxHeartbeats 3200000 in
set_option maxRecDepth 100000 in
theorem disOf_any (m : M8) (da : Option Addr) (n c : Nat) (w : World) (hd : Dis8 w) : Calls Tryd.prog 42 #[.agg (mC m da n c)] w fun e w' => e = .returned (.tuple #[.agg (diOf (mkD m)), .bool (isK (mkD m))]) ∧ Below w.heap.size w w' := by
  have hm := mAt_new w m da n c
  have bel0 : Below w.heap.size w (w.alloc (.cells (mC m da n c) 31)) := (Below.refl _ _).alloc (Nat.le_refl _) _
  obtain ⟨C, hC⟩ : ∃ C, C = mC m da n c := ⟨_, rfl⟩
  rw [← hC] at bel0
  have hd1 := hd.old bel0
  have hb1 : Below (w.alloc (.cells C 31)).heap.size (w.alloc (.cells C 31)) ((w.alloc (.cells C 31)).alloc (.cells (diC 0 0 0) 85)) := (Below.refl _ _).alloc (Nat.le_refl _) _
  have hn0 := diAt_new (w.alloc (.cells C 31)) 0 0 0
  rw [World.size_alloc] at hn0
  have bel := bthen bel0 hb1
  have hdW := hd1.old hb1
  have hmW : MAt ((w.alloc (.cells C 31)).alloc (.cells (diC 0 0 0) 85)) w.heap.size m da n c := MAt.below (by rw [hC]; exact hm) hb1
  obtain ⟨W, hW⟩ : ∃ W, W = (w.alloc (.cells C 31)).alloc (.cells (diC 0 0 0) 85) := ⟨_, rfl⟩
  rw [← hW] at hn0 bel hdW hmW
  have HW : Hid ((w.alloc (.cells C 31)).alloc (.cells #[.int .i64 0, .int .i64 0, .int .i64 0] 85) = W) := hW.symm
  obtain ⟨B, hB⟩ : ∃ B, B = w.heap.size := ⟨_, rfl⟩
  rw [← hB] at hn0 hmW
  have HB : Hid (w.heap.size = B) := hB.symm
  have HN0 : Hid (DiAt W (B + 1) 0 0 0) := hn0
  have HM0 : Hid (MAt W B m da n c) := hmW
  have g0 : W.cell? ⟨1, 0, none⟩ = some (.int .i64 1) := hdW 0 _ rfl
  have g1 : W.cell? ⟨1, 1, none⟩ = some (.int .i64 135) := hdW 1 _ rfl
  have g2 : W.cell? ⟨1, 2, none⟩ = some (.int .i64 1) := hdW 2 _ rfl
  have g3 : W.cell? ⟨1, 3, none⟩ = some (.int .i64 2) := hdW 3 _ rfl
  have g4 : W.cell? ⟨1, 4, none⟩ = some (.int .i64 136) := hdW 4 _ rfl
  have g5 : W.cell? ⟨1, 5, none⟩ = some (.int .i64 2) := hdW 5 _ rfl
  rw [← hC]
  clear hd hm bel0 hC hd1 hb1 hn0 hdW hmW hW hB
  go_enter Tryd.func42, Tryd.ntmps42
  go_upto_region 1 with fail
  rw [HB.out, HW.out]
  go_wp2
  clear g0 g1 g2 g3 g4 g5
  go_loopw [7] (fun ix wr => ∃ k : Nat, k ≤ 2 ∧ ix = .int .i64 k ∧ Hid (1 ≤ k → ¬ (m.v = 6 ∧ m.t = 135 ∧ m.c = 0)) ∧ Hid (2 ≤ k → ¬ (m.v = 6 ∧ m.t = 136 ∧ m.c = 0)) ∧ DiAt wr (B + 1) 0 0 0 ∧ MAt wr B m da n c ∧ Below w.heap.size w wr) (fun ix _ => 2 - (intOf ix).toNat)
  case atStart => exact ⟨0, by omega, rfl, (fun h => by omega), (fun h => by omega), HN0.out, HM0.out, bel⟩
  case round =>
    obtain ⟨k, hk, rfl, H1, H2, hz, hmr, hbel⟩ := hrel
    have HZ : Hid (DiAt wr (B + 1) 0 0 0) := hz
    have HM : Hid (MAt wr B m da n c) := hmr
    clear hz hmr HN0 HM0 bel
    by_cases k0 : k = 0
    · subst k0
      have hbn : Below wr.heap.size wr (wr.alloc (.cells (diC 1 135 1) 85)) := (Below.refl _ _).alloc (Nat.le_refl _) _
      have HX : Hid (DiAt (wr.alloc (.cells (diC 1 135 1) 85)) (B + 1) 0 0 0) := HZ.out.below hbn
      have HMX : Hid (MAt (wr.alloc (.cells (diC 1 135 1) 85)) B m da n c) := HM.out.below hbn
      have hbx : Below w.heap.size w (wr.alloc (.cells (diC 1 135 1) 85)) := hbel.trans (hbn.mono hbel.size)
      have q0 : (wr.alloc (.cells (diC 1 135 1) 85)).cell? ⟨B, 0, none⟩ = some (.int .i64 m.v) := HMX.out.cell 0
      have q1 : (wr.alloc (.cells (diC 1 135 1) 85)).cell? ⟨B, 1, none⟩ = some (.int .i64 m.t) := HMX.out.cell 1
      have q2 : (wr.alloc (.cells (diC 1 135 1) 85)).cell? ⟨B, 2, none⟩ = some (.int .i64 m.c) := HMX.out.cell 2
      have mB : B < wr.heap.size := HM.out.lt
      have q0' : wr.cell? ⟨B, 0, none⟩ = some (.int .i64 m.v) := HM.out.cell 0
      have q1' : wr.cell? ⟨B, 1, none⟩ = some (.int .i64 m.t) := HM.out.cell 1
      have q2' : wr.cell? ⟨B, 2, none⟩ = some (.int .i64 m.c) := HM.out.cell 2
      clear hbn q0 q1 q2 HM HZ
      by_cases h6 : m.v = 6 ∧ m.t = 135 ∧ m.c = 0
      · have HK : Hid (diOf (mkD m) = diC 1 135 1 ∧ isK (mkD m) = true) := by
          have e : mkD m = 1 := by unfold mkD; rw [if_pos ⟨h6.1, h6.2.2⟩, h6.2.1]; rfl
          rw [e]; exact ⟨rfl, rfl⟩
        rw [h6.1] at q0'
        rw [h6.2.1] at q1'
        rw [h6.2.2] at q2'
        clear h6 H1 H2
        go_wp2_with (first | (refine wpList_index_di (.tmp 6) (.tmp 7) rfl 0 #[.int .i64 1, .int .i64 135, .int .i64 1] (.inl rfl) rfl rfl rfl rfl ?_) | (refine wpList_store_di (.tmp 2) (.tmp 25) rfl rfl (B + 1) 0 0 0 1 135 1 rfl rfl HX.out rfl ?_))
        intro wE hRE kE
        have HRE : Hid (DiAt wE (B + 1) 1 135 1) := hRE
        have HFE : Hid (Below w.heap.size w wE) := hbx.trans (kE.below (fun q e => by have e' : q = B + 1 := e; have := HB.out; omega) hbx.size)
        clear hRE kE
        go_wp2
        (try simp only [Exit.inBlock, Exit.then])
        refine bodyPost_ret (results_di_tmp rfl _ _ (B + 1) 1 135 1 rfl HRE.out) rfl ?_
        exact ⟨by rw [HK.out.1, HK.out.2]; rfl, HFE.out⟩
      · have HNO : Hid (¬ (m.v = 6 ∧ m.t = 135 ∧ m.c = 0)) := h6
        have hcase : (m.v == 6) = false ∨ ((m.v == 6) = true ∧ (m.t == 135) = false) ∨ ((m.v == 6) = true ∧ (m.t == 135) = true ∧ (m.c == 0) = false) := by
          by_cases a1 : m.v = 6
          · by_cases a2 : m.t = 135
            · by_cases a3 : m.c = 0
              · exact absurd ⟨a1, a2, a3⟩ h6
              · exact .inr (.inr ⟨by simp [a1], by simp [a2], by simp [a3]⟩)
            · exact .inr (.inl ⟨by simp [a1], by simp [a2]⟩)
          · exact .inl (by simp [a1])
        clear h6
        rcases hcase with a1 | ⟨a1, a2⟩ | ⟨a1, a2, a3⟩
        · go_wp2_with (first | (refine wpList_index_di (.tmp 6) (.tmp 7) rfl 0 #[.int .i64 1, .int .i64 135, .int .i64 1] (.inl rfl) rfl rfl rfl rfl ?_))
          go_roundw
          case rel => exact ⟨1, by omega, rfl, (fun _ => HNO.out), (fun h => by omega), HX.out, HMX.out, hbx⟩
          case measure => simp [intOf]
        · go_wp2_with (first | (refine wpList_index_di (.tmp 6) (.tmp 7) rfl 0 #[.int .i64 1, .int .i64 135, .int .i64 1] (.inl rfl) rfl rfl rfl rfl ?_))
          go_roundw
          case rel => exact ⟨1, by omega, rfl, (fun _ => HNO.out), (fun h => by omega), HX.out, HMX.out, hbx⟩
          case measure => simp [intOf]
        · go_wp2_with (first | (refine wpList_index_di (.tmp 6) (.tmp 7) rfl 0 #[.int .i64 1, .int .i64 135, .int .i64 1] (.inl rfl) rfl rfl rfl rfl ?_))
          go_roundw
          case rel => exact ⟨1, by omega, rfl, (fun _ => HNO.out), (fun h => by omega), HX.out, HMX.out, hbx⟩
          case measure => simp [intOf]
    · by_cases k1 : k = 1
      · subst k1
        have hbn : Below wr.heap.size wr (wr.alloc (.cells (diC 2 136 2) 85)) := (Below.refl _ _).alloc (Nat.le_refl _) _
        have HX : Hid (DiAt (wr.alloc (.cells (diC 2 136 2) 85)) (B + 1) 0 0 0) := HZ.out.below hbn
        have HMX : Hid (MAt (wr.alloc (.cells (diC 2 136 2) 85)) B m da n c) := HM.out.below hbn
        have hbx : Below w.heap.size w (wr.alloc (.cells (diC 2 136 2) 85)) := hbel.trans (hbn.mono hbel.size)
        have q0 : (wr.alloc (.cells (diC 2 136 2) 85)).cell? ⟨B, 0, none⟩ = some (.int .i64 m.v) := HMX.out.cell 0
        have q1 : (wr.alloc (.cells (diC 2 136 2) 85)).cell? ⟨B, 1, none⟩ = some (.int .i64 m.t) := HMX.out.cell 1
        have q2 : (wr.alloc (.cells (diC 2 136 2) 85)).cell? ⟨B, 2, none⟩ = some (.int .i64 m.c) := HMX.out.cell 2
        have mB : B < wr.heap.size := HM.out.lt
        have q0' : wr.cell? ⟨B, 0, none⟩ = some (.int .i64 m.v) := HM.out.cell 0
        have q1' : wr.cell? ⟨B, 1, none⟩ = some (.int .i64 m.t) := HM.out.cell 1
        have q2' : wr.cell? ⟨B, 2, none⟩ = some (.int .i64 m.c) := HM.out.cell 2
        clear hbn q0 q1 q2 HM HZ
        by_cases h6 : m.v = 6 ∧ m.t = 136 ∧ m.c = 0
        · have HK : Hid (diOf (mkD m) = diC 2 136 2 ∧ isK (mkD m) = true) := by
            have e : mkD m = 2 := by unfold mkD; rw [if_pos ⟨h6.1, h6.2.2⟩, h6.2.1]; rfl
            rw [e]; exact ⟨rfl, rfl⟩
          rw [h6.1] at q0'
          rw [h6.2.1] at q1'
          rw [h6.2.2] at q2'
          clear h6 H1 H2
          go_wp2_with (first | (refine wpList_index_di (.tmp 6) (.tmp 7) rfl 1 #[.int .i64 2, .int .i64 136, .int .i64 2] (.inr rfl) rfl rfl rfl rfl ?_) | (refine wpList_store_di (.tmp 2) (.tmp 25) rfl rfl (B + 1) 0 0 0 2 136 2 rfl rfl HX.out rfl ?_))
          intro wE hRE kE
          have HRE : Hid (DiAt wE (B + 1) 2 136 2) := hRE
          have HFE : Hid (Below w.heap.size w wE) := hbx.trans (kE.below (fun q e => by have e' : q = B + 1 := e; have := HB.out; omega) hbx.size)
          clear hRE kE
          go_wp2
          (try simp only [Exit.inBlock, Exit.then])
          refine bodyPost_ret (results_di_tmp rfl _ _ (B + 1) 2 136 2 rfl HRE.out) rfl ?_
          exact ⟨by rw [HK.out.1, HK.out.2]; rfl, HFE.out⟩
        · have HNO : Hid (¬ (m.v = 6 ∧ m.t = 136 ∧ m.c = 0)) := h6
          have hcase : (m.v == 6) = false ∨ ((m.v == 6) = true ∧ (m.t == 136) = false) ∨ ((m.v == 6) = true ∧ (m.t == 136) = true ∧ (m.c == 0) = false) := by
            by_cases a1 : m.v = 6
            · by_cases a2 : m.t = 136
              · by_cases a3 : m.c = 0
                · exact absurd ⟨a1, a2, a3⟩ h6
                · exact .inr (.inr ⟨by simp [a1], by simp [a2], by simp [a3]⟩)
              · exact .inr (.inl ⟨by simp [a1], by simp [a2]⟩)
            · exact .inl (by simp [a1])
          clear h6
          rcases hcase with a1 | ⟨a1, a2⟩ | ⟨a1, a2, a3⟩
          · go_wp2_with (first | (refine wpList_index_di (.tmp 6) (.tmp 7) rfl 1 #[.int .i64 2, .int .i64 136, .int .i64 2] (.inr rfl) rfl rfl rfl rfl ?_))
            go_roundw
            case rel => exact ⟨2, by omega, rfl, (fun _ => H1.out (by omega)), (fun _ => HNO.out), HX.out, HMX.out, hbx⟩
            case measure => simp [intOf]
          · go_wp2_with (first | (refine wpList_index_di (.tmp 6) (.tmp 7) rfl 1 #[.int .i64 2, .int .i64 136, .int .i64 2] (.inr rfl) rfl rfl rfl rfl ?_))
            go_roundw
            case rel => exact ⟨2, by omega, rfl, (fun _ => H1.out (by omega)), (fun _ => HNO.out), HX.out, HMX.out, hbx⟩
            case measure => simp [intOf]
          · go_wp2_with (first | (refine wpList_index_di (.tmp 6) (.tmp 7) rfl 1 #[.int .i64 2, .int .i64 136, .int .i64 2] (.inr rfl) rfl rfl rfl rfl ?_))
            go_roundw
            case rel => exact ⟨2, by omega, rfl, (fun _ => H1.out (by omega)), (fun _ => HNO.out), HX.out, HMX.out, hbx⟩
            case measure => simp [intOf]
      · have e2 : k = 2 := by omega
        subst e2
        have n1 := H1.out (by omega)
        have n2 := H2.out (by omega)
        have ez : mkD m = 0 := by
          unfold mkD
          split
          · rename_i h
            rw [if_neg (fun e => n1 ⟨h.1, e, h.2⟩), if_neg (fun e => n2 ⟨h.1, e, h.2⟩)]
          · rfl
        have HD : Hid (diOf (mkD m) = diC 0 0 0 ∧ isK (mkD m) = false) := by rw [ez]; exact ⟨rfl, rfl⟩
        clear n1 n2 k0 k1 ez H1 H2
        go_wp2_with (first | (refine wpList_store_di (.tmp 2) (.tmp 27) rfl rfl (B + 1) 0 0 0 0 0 0 rfl rfl HZ.out rfl ?_))
        intro wE hRE kE
        have HRE : Hid (DiAt wE (B + 1) 0 0 0) := hRE
        have HFE : Hid (Below w.heap.size w wE) := hbel.trans (kE.below (fun q e => by have e' : q = B + 1 := e; have := HB.out; omega) hbel.size)
        clear hRE kE
        go_wp2
        (try simp only [Exit.inBlock, Exit.then])
        refine bodyPost_ret (results_di_tmp rfl _ _ (B + 1) 0 0 0 rfl HRE.out) rfl ?_
        exact ⟨by rw [HD.out.1, HD.out.2]; rfl, HFE.out⟩
end Go.Proofs.YtijipfciimcnpaaDoor
