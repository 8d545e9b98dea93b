/-
  addr and weirref4: Solicited.
-/
import Derived.Test.YteldiggaooeeeaaGreatDoorB4u
namespace Go.Proofs.YteldiggaooeeeaaGreatDoor
open Go.RowKit Go.Maps

set_option maxHeartbeats 1600000 in
set_option maxRecDepth 100000 in
theorem solic_any (V : Int) (x : Nat → Nat) (w : World) (hx : ∀ i, i < 16 → x i < 256) (hs : Spe8 w) : Calls Tryz.prog 27 #[.agg (ipCells V x)] w fun r w' => r = .returned (soO V x) ∧ Below w.heap.size w w' := by
  have HX : Hid (∀ i, i < 16 → x i < 256) := hx
  have HSP : Hid (Spe8 w) := hs
  clear hx hs
  go_enter Tryz.func27, Tryz.ntmps27
  go_wp2_with (refine wpList_box_ipN (.tmp 0) rfl V x rfl rfl ?_)
  intro B W1 HB1 hI bI
  go_wp2_with (refine wpList_nil_ipN rfl rfl ?_)
  intro R W2 HR1 hR bR
  have HBR : Hid (w.heap.size ≤ B ∧ B < R ∧ W2.heap.size = R + 1) := ⟨by have := HB1.out; omega, by have := HB1.out; have := HR1.out; omega, HR1.out.2⟩
  have H2 : Hid (IprAt W2 B V x ∧ IprAt W2 R 0 (fun _ => 0) ∧ Below w.heap.size w W2) := ⟨hI.below bR, hR, bthen bI bR⟩
  clear hI bI hR bR HB1 HR1
  go_wp2_with (refine wpList_load_ipr (.tmp 1) rfl B V x rfl H2.out.1 rfl ?_)
  refine (class_any V x W2 HX.out (HSP.out.old H2.out.2.2)).mono ?_
  rintro e w3 ⟨rfl, hb⟩
  have H3 : Hid (IprAt w3 B V x ∧ IprAt w3 R 0 (fun _ => 0) ∧ Below w.heap.size w w3) := ⟨H2.out.1.below hb, H2.out.2.1.below hb, H2.out.2.2.trans (hb.mono H2.out.2.2.size)⟩
  clear hb H2
  rw [class_alike V x HX.out]
  obtain ⟨c, hc⟩ : ∃ c, clR V x = c := ⟨_, rfl⟩
  have HC : Hid (clR V x = c) := hc
  rw [hc]
  clear hc
  have k0 : w3.cell? ⟨B, 0, none⟩ = some (.int .i64 V) := H3.out.1.cell 0
  go_upto_region 2 with fail
  go_cut [17] (fun u wx => u = .bool (!soB V x) ∧ w3 = wx)
  case first =>
    by_cases h6 : V = 6
    · by_cases h1 : c = 1
      · have HD : Hid ((!soB V x) = true) := by show (!soB V x) = true; unfold soB; rw [HC.out, h1]; simp
        have f0 : (V != 6) = false := by rw [h6]; rfl
        have f1 : ((c : Int) == 1) = true := by rw [h1]; rfl
        have f2 : (c == 1) = true := by rw [h1]; rfl
        clear h6 h1
        go_wp2
        go_meet
        exact ⟨by rw [HD.out], rfl⟩
      · by_cases h3 : c = 3
        · have HD : Hid ((!soB V x) = true) := by show (!soB V x) = true; unfold soB; rw [HC.out, h3]; simp
          have f0 : (V != 6) = false := by rw [h6]; rfl
          have f1 : ((c : Int) == 1) = false := by rw [h3]; rfl
          have f2 : (c == 1) = false := by rw [h3]; rfl
          have f3 : ((c : Int) == 3) = true := by rw [h3]; rfl
          have f4 : (c == 3) = true := by rw [h3]; rfl
          clear h6 h1 h3
          go_wp2
          go_meet
          exact ⟨by rw [HD.out], rfl⟩
        · have HD : Hid ((!soB V x) = false) := by show (!soB V x) = false; unfold soB; rw [HC.out, h6]; simp [h1, h3]
          have f0 : (V != 6) = false := by rw [h6]; rfl
          have f1 : ((c : Int) == 1) = false := by simp; omega
          have f2 : (c == 1) = false := by simp [h1]
          have f3 : ((c : Int) == 3) = false := by simp; omega
          have f4 : (c == 3) = false := by simp [h3]
          clear h6 h1 h3
          go_wp2
          go_meet
          exact ⟨by rw [HD.out], rfl⟩
    · have HD : Hid ((!soB V x) = true) := by show (!soB V x) = true; unfold soB; simp [h6]
      have f0 : (V != 6) = true := by simp [h6]
      clear h6
      go_wp2
      go_meet
      exact ⟨by rw [HD.out], rfl⟩
  case rest =>
    obtain ⟨rfl, rfl⟩ := hcut
    clear k0
    cases hB : soB V x with
    | true =>
      have HB : Hid (soB V x = true) := hB
      clear hB
      have h6 : V = 6 := by
        have h := HB.out
        unfold soB at h
        simp only [Bool.and_eq_true, beq_iff_eq] at h
        exact h.1.1
      subst h6
      have b13 : w3.cell? ⟨B, 14, none⟩ = some (.int .u8 (x 13 : Nat)) := by have h := H3.out.1.byte 13 (by decide); rw [Nat.add_comm] at h; exact h
      have b14 : w3.cell? ⟨B, 15, none⟩ = some (.int .u8 (x 14 : Nat)) := by have h := H3.out.1.byte 14 (by decide); rw [Nat.add_comm] at h; exact h
      have b15 : w3.cell? ⟨B, 16, none⟩ = some (.int .u8 (x 15 : Nat)) := by have h := H3.out.1.byte 15 (by decide); rw [Nat.add_comm] at h; exact h
      go_wp2_with (first | (refine wpList_bsol (.const (.int .u8 255)) (.const (.int .u8 2)) (.const (.int .u8 1)) (.const (.int .u8 255)) (.tmp 21) (.tmp 24) (.tmp 27) rfl (x 13) (x 14) (x 15) rfl rfl rfl rfl rfl rfl rfl rfl ?_) | (refine wpList_ip6 (.const (.int .i64 6)) (.tmp 28) rfl (soF x) rfl rfl rfl ?_) | (refine wpList_store_ipr (.tmp 2) (.tmp 29) rfl rfl R 0 (fun _ => 0) 6 (soF x) rfl rfl H3.out.2.1 rfl ?_))
      intro wE hRE kE
      have HE : Hid (IprAt wE R 6 (soF x) ∧ Below w.heap.size w wE) := ⟨hRE, H3.out.2.2.trans (kE.below (fun q e => by have e' : q = R := e; have := HBR.out; omega) H3.out.2.2.size)⟩
      clear hRE kE
      go_wp2
      (try simp only [Exit.inBlock, Exit.then])
      refine bodyPost_ret (results_ipr_tmp rfl _ _ R 6 (soF x) rfl HE.out.1) rfl ?_
      exact ⟨by unfold soO; rw [HB.out]; rfl, HE.out.2⟩
    | false =>
      have HB : Hid (soB V x = false) := hB
      clear hB
      go_wp2_with (first | (refine wpList_store_ipr (.tmp 2) (.tmp 18) rfl rfl R 0 (fun _ => 0) 0 (fun _ => 0) rfl rfl H3.out.2.1 rfl ?_))
      intro wE hRE kE
      have HE : Hid (IprAt wE R 0 (fun _ => 0) ∧ Below w.heap.size w wE) := ⟨hRE, H3.out.2.2.trans (kE.below (fun q e => by have e' : q = R := e; have := HBR.out; omega) H3.out.2.2.size)⟩
      clear hRE kE
      go_wp2
      (try simp only [Exit.inBlock, Exit.then])
      refine bodyPost_ret (results_ipr_tmp rfl _ _ R 0 (fun _ => 0) rfl HE.out.1) rfl ?_
      exact ⟨by unfold soO; rw [HB.out]; rfl, HE.out.2⟩
set_option maxHeartbeats 1600000 in
set_option maxRecDepth 100000 in
theorem solicR_any (V : Int) (x : Nat → Nat) (w : World) (hx : ∀ i, i < 16 → x i < 256) : Calls Tryz.prog 28 #[.agg (ipCells V x)] w fun r w' => r = .returned (soO V x) ∧ Below w.heap.size w w' := by
  have HX : Hid (∀ i, i < 16 → x i < 256) := hx
  clear hx
  go_enter Tryz.func28, Tryz.ntmps28
  go_wp2_with (refine wpList_box_ipN (.tmp 0) rfl V x rfl rfl ?_)
  intro B W1 HB1 hI bI
  go_wp2_with (refine wpList_nil_ipN rfl rfl ?_)
  intro R W2 HR1 hR bR
  have HBR : Hid (w.heap.size ≤ B ∧ B < R ∧ W2.heap.size = R + 1) := ⟨by have := HB1.out; omega, by have := HB1.out; have := HR1.out; omega, HR1.out.2⟩
  have H2 : Hid (IprAt W2 B V x ∧ IprAt W2 R 0 (fun _ => 0) ∧ Below w.heap.size w W2) := ⟨hI.below bR, hR, bthen bI bR⟩
  clear hI bI hR bR HB1 HR1
  go_wp2_with (refine wpList_load_ipr (.tmp 1) rfl B V x rfl H2.out.1 rfl ?_)
  refine (classR_any V x W2 HX.out).mono ?_
  rintro e w3 ⟨rfl, hb⟩
  have H3 : Hid (IprAt w3 B V x ∧ IprAt w3 R 0 (fun _ => 0) ∧ Below w.heap.size w w3) := ⟨H2.out.1.below hb, H2.out.2.1.below hb, H2.out.2.2.trans (hb.mono H2.out.2.2.size)⟩
  clear hb H2
  obtain ⟨c, hc⟩ : ∃ c, clR V x = c := ⟨_, rfl⟩
  have HC : Hid (clR V x = c) := hc
  rw [hc]
  clear hc
  have k0 : w3.cell? ⟨B, 0, none⟩ = some (.int .i64 V) := H3.out.1.cell 0
  go_upto_region 2 with fail
  go_cut [21] (fun u wx => u = .bool (!soB V x) ∧ w3 = wx)
  case first =>
    by_cases h6 : V = 6
    · by_cases h1 : c = 1
      · have HD : Hid ((!soB V x) = true) := by show (!soB V x) = true; unfold soB; rw [HC.out, h1]; simp
        have f0 : (V != 6) = false := by rw [h6]; rfl
        have f1 : ((c : Int) == 1) = true := by rw [h1]; rfl
        have f2 : (c == 1) = true := by rw [h1]; rfl
        clear h6 h1
        go_wp2
        go_meet
        exact ⟨by rw [HD.out], rfl⟩
      · by_cases h3 : c = 3
        · have HD : Hid ((!soB V x) = true) := by show (!soB V x) = true; unfold soB; rw [HC.out, h3]; simp
          have f0 : (V != 6) = false := by rw [h6]; rfl
          have f1 : ((c : Int) == 1) = false := by rw [h3]; rfl
          have f2 : (c == 1) = false := by rw [h3]; rfl
          have f3 : ((c : Int) == 3) = true := by rw [h3]; rfl
          have f4 : (c == 3) = true := by rw [h3]; rfl
          clear h6 h1 h3
          go_wp2
          go_meet
          exact ⟨by rw [HD.out], rfl⟩
        · have HD : Hid ((!soB V x) = false) := by show (!soB V x) = false; unfold soB; rw [HC.out, h6]; simp [h1, h3]
          have f0 : (V != 6) = false := by rw [h6]; rfl
          have f1 : ((c : Int) == 1) = false := by simp; omega
          have f2 : (c == 1) = false := by simp [h1]
          have f3 : ((c : Int) == 3) = false := by simp; omega
          have f4 : (c == 3) = false := by simp [h3]
          clear h6 h1 h3
          go_wp2
          go_meet
          exact ⟨by rw [HD.out], rfl⟩
    · have HD : Hid ((!soB V x) = true) := by show (!soB V x) = true; unfold soB; simp [h6]
      have f0 : (V != 6) = true := by simp [h6]
      clear h6
      go_wp2
      go_meet
      exact ⟨by rw [HD.out], rfl⟩
  case rest =>
    obtain ⟨rfl, rfl⟩ := hcut
    clear k0
    cases hB : soB V x with
    | true =>
      have HB : Hid (soB V x = true) := hB
      clear hB
      have h6 : V = 6 := by
        have h := HB.out
        unfold soB at h
        simp only [Bool.and_eq_true, beq_iff_eq] at h
        exact h.1.1
      subst h6
      go_wp2_with fail
      refine (soT_any w3).mono ?_
      rintro e w4 ⟨rfl, hb⟩
      have H4 : Hid (IprAt w4 B 6 x ∧ IprAt w4 R 0 (fun _ => 0) ∧ Below w.heap.size w w4) := ⟨H3.out.1.below hb, H3.out.2.1.below hb, H3.out.2.2.trans (hb.mono H3.out.2.2.size)⟩
      clear hb H3
      go_wp2_with (refine wpList_nil_ipN rfl rfl ?_)
      intro D w5 HD hD bD
      have HRD : Hid (R < D) := by have h1 := HD.out; have h2 := H4.out.2.1.lt; show R < D; omega
      go_wp2_with (refine wpList_store_ipr (.tmp 5) (.tmp 25) rfl rfl D 0 (fun _ => 0) 6 so0 rfl rfl hD rfl ?_)
      intro w6 hD6 k6
      have H6 : Hid (IprAt w6 B 6 x ∧ IprAt w6 R 0 (fun _ => 0) ∧ IprAt w6 D 6 (soP x 13) ∧ Below w.heap.size w w6) := by
        have h1 := HBR.out
        have h2 := HRD.out
        have b5 := H4.out.2.2.trans (bD.mono H4.out.2.2.size)
        exact ⟨(H4.out.1.below bD).ch k6 (by omega), (H4.out.2.1.below bD).ch k6 (by omega), by rw [soP_0]; exact hD6, b5.trans (k6.below (fun q hq => by have h' : q = D := hq; omega) b5.size)⟩
      clear hD bD HD hD6 k6 H4
      go_wp2
      go_loopw [8] (fun iv wr => ∃ i : Nat, 13 ≤ i ∧ i ≤ 16 ∧ iv = .int .i64 (i : Nat) ∧ Hid (IprAt wr B 6 x ∧ IprAt wr R 0 (fun _ => 0) ∧ IprAt wr D 6 (soP x i) ∧ Below w.heap.size w wr)) (fun iv _ => 16 - (intOf iv).toNat)
      case atStart => exact ⟨13, by omega, by omega, rfl, H6.out⟩
      case round =>
        obtain ⟨i, hi1, hi2, rfl, HF⟩ := hrel
        by_cases hil : i < 16
        · have HI : Hid (13 ≤ i ∧ i < 16) := ⟨hi1, hil⟩
          have p1 : decide ((i : Int) < 16) = true := decide_eq_true (by omega)
          have p2 : (i : Int) < 16 := by omega
          have z3 : IntKind.i64.wrap ((i : Int) + 1) = (i : Int) + 1 := i64_s _ (by omega) (by omega)
          clear hi1 hi2 hil
          have cb := HF.out.1.byte i HI.out.2
          have cd := HF.out.2.2.1.byte i HI.out.2
          have fd := HF.out.2.2.1.fz (1 + i)
          obtain ⟨w8, hw8⟩ : ∃ W_, W_ = wr.setCell ⟨D, 1 + i, none⟩ (.int .u8 (x i : Nat)) := ⟨_, rfl⟩
          have HW8 : Hid (wr.setCell ⟨D, 1 + i, none⟩ (.int .u8 (x i : Nat)) = w8) := hw8.symm
          have H8 : Hid (IprAt w8 B 6 x ∧ IprAt w8 R 0 (fun _ => 0) ∧ IprAt w8 D 6 (soP x (i + 1)) ∧ Below w.heap.size w w8) := by
            have k8 : Ch (fun q => q = D) wr w8 := by rw [hw8]; exact (Ch.refl (fun q => q = D) wr).set ⟨D, 1 + i, none⟩ _ rfl
            have h1 := HBR.out
            have h2 := HRD.out
            have hp := HF.out.2.2.1.put i (x i) HI.out.2
            rw [soP_up x HI.out.1, ← hw8] at hp
            exact ⟨HF.out.1.ch k8 (by omega), HF.out.2.1.ch k8 (by omega), hp, HF.out.2.2.2.trans (k8.below (fun q hq => by have h' : q = D := hq; omega) HF.out.2.2.2.size)⟩
          clear hw8
          go_upto_region 7 with fail
          rw [HW8.out]
          clear cb cd fd
          go_wp2
          go_roundw
          case rel => exact ⟨i + 1, by have := HI.out; omega, HI.out.2, by simp, H8.out⟩
          case measure => have := HI.out; simp [intOf]; omega
        · have HE16 : Hid (i = 16) := by show i = 16; omega
          obtain rfl := HE16.out
          clear hil hi1 hi2 HE16
          go_wp2_with (first | (refine wpList_load_ipr (.tmp 5) rfl D 6 (soP x 16) rfl HF.out.2.2.1 rfl ?_) | (refine wpList_store_ipr (.tmp 2) (.tmp 39) rfl rfl R 0 (fun _ => 0) 6 (soP x 16) rfl rfl HF.out.2.1 rfl ?_))
          intro wE hRE kE
          have HE : Hid (IprAt wE R 6 (soP x 16) ∧ Below w.heap.size w wE) := ⟨hRE, HF.out.2.2.2.trans (kE.below (fun q e => by have e' : q = R := e; have := HBR.out; omega) HF.out.2.2.2.size)⟩
          clear hRE kE
          go_wp2
          (try simp only [Exit.inBlock, Exit.then])
          refine bodyPost_ret (results_ipr_tmp rfl _ _ R 6 (soP x 16) rfl HE.out.1) rfl ?_
          exact ⟨by unfold soO; rw [HB.out, if_pos rfl, ← soP_end]; rfl, HE.out.2⟩
    | false =>
      have HB : Hid (soB V x = false) := hB
      clear hB
      go_wp2_with (first | (refine wpList_store_ipr (.tmp 2) (.tmp 22) rfl rfl R 0 (fun _ => 0) 0 (fun _ => 0) rfl rfl H3.out.2.1 rfl ?_))
      intro wE hRE kE
      have HE : Hid (IprAt wE R 0 (fun _ => 0) ∧ Below w.heap.size w wE) := ⟨hRE, H3.out.2.2.trans (kE.below (fun q e => by have e' : q = R := e; have := HBR.out; omega) H3.out.2.2.size)⟩
      clear hRE kE
      go_wp2
      (try simp only [Exit.inBlock, Exit.then])
      refine bodyPost_ret (results_ipr_tmp rfl _ _ R 0 (fun _ => 0) rfl HE.out.1) rfl ?_
      exact ⟨by unfold soO; rw [HB.out]; rfl, HE.out.2⟩
end Go.Proofs.YteldiggaooeeeaaGreatDoor
