/-
  Package hole: why a piece is refused.
-/
import Derived.Test.YtcoaghcmbhogjaaHRef
namespace Go.Proofs.Ytcoaghcmbhogjaa
open Go.RowKit Go.Maps
namespace H11

theorem rf_end (s : HS) (o n : Nat) (more : Bool) (h1 : ¬ 65535 < n) (h2 : ¬ ((o : Int) < 0 ∨ (o : Int).tmod 8 ≠ 0 ∨ (more = true ∧ (n : Int).tmod 8 ≠ 0))) (h3 : n ≠ 0) (h4 : ¬ (s.mx : Int) - n < (o : Int)) : rf s o n more = rfE s o n more := by
  unfold rf rfE
  rw [if_neg h1, if_neg h2, if_neg h3, if_neg h4]
  have e1 : ((s.en : Int) < (o : Int) + (n : Int)) ↔ s.en < o + n := by omega
  have e2 : ((o : Int) + (n : Int) ≠ (s.en : Int)) ↔ o + n ≠ s.en := by omega
  have e3 : ((o : Int) + (n : Int) < (s.bs.length : Int)) ↔ o + n < s.bs.length := by omega
  simp only [e1, e2, e3]

theorem tm (x : Int) (h : 0 ≤ x) : x.tmod 8 = x % 8 := Int.tmod_eq_emod_of_nonneg h

set_option maxRecDepth 100000 in
set_option maxHeartbeats 4000000 in
theorem refuse_any (w : World) (H : Nat) (s : HS) (v : HV) (h : HAt w H s v) (hm : s.mx ≤ 65535) (off : Int) (n : Nat) (more : Bool) :
    Calls Try.prog 31 #[.pointer (some ⟨H, 0, none⟩), kv off n more] w fun e w' => e = .returned (.int .i64 (rf s off n more)) ∧ Below w.heap.size w w' := by
  obtain ⟨P, hP⟩ : ∃ P : Array Value, P = #[.int .i64 off, .int .i64 (n : Int), .bool more] := ⟨_, rfl⟩
  obtain ⟨B, hB⟩ : ∃ B, B = w.heap.size := ⟨_, rfl⟩
  obtain ⟨W, hW⟩ : ∃ W, W = w.alloc (.cells #[.int .i64 off, .int .i64 (n : Int), .bool more] 78) := ⟨_, rfl⟩
  have hb : Below w.heap.size w W := by rw [hW]; exact (Below.refl _ _).alloc (Nat.le_refl _) _
  have hH : HAt W H s v := h.below hb
  have hPc : PcAt W B P := by
    rw [hW, hB, hP]
    exact PcAt_new _ _
  have p0 : W.cell? ⟨B, 0, none⟩ = some (.int .i64 off) := by rw [hPc.cell 0, hP]; rfl
  have p1 : W.cell? ⟨B, 1, none⟩ = some (.int .i64 (n : Int)) := by rw [hPc.cell 1, hP]; rfl
  have p2 : W.cell? ⟨B, 2, none⟩ = some (.bool more) := by rw [hPc.cell 2, hP]; rfl
  have c0 := hH.c0
  have HH : Hid _ := hH
  have HPC : Hid _ := hPc
  have HP : Hid (P = #[.int .i64 off, .int .i64 (n : Int), .bool more]) := hP
  have HWW : Hid (w.alloc (.cells #[.int .i64 off, .int .i64 (n : Int), .bool more] 78) = W) := hW.symm
  have HBB : Hid (w.heap.size = B) := hB.symm
  obtain ⟨E, hE⟩ : ∃ E, E = rf s off n more := ⟨_, rfl⟩
  rw [← hE]
  have HE : Hid (E = rf s off n more) := hE
  unfold kv
  clear hP hW hB h hH hPc hE
  by_cases t1 : 65535 < n
  · have HR : Hid (E = 2) := by show E = 2; rw [HE.out]; unfold rf; exact if_pos t1
    have d1 : (65535 : Int) < (n : Int) := by omega
    clear t1 HE
    go_enter Try.func31, Try.ntmps31
    go_upto_region 1 with fail
    rw [HWW.out, HBB.out]
    go_wp2
    go_ret
    exact ⟨by rw [HR.out]; rfl, hb⟩
  · have d1 : ¬ (65535 : Int) < (n : Int) := by omega
    by_cases t2 : off < 0 ∨ off.tmod 8 ≠ 0 ∨ (more = true ∧ (n : Int).tmod 8 ≠ 0)
    · have HR : Hid (E = 110) := by show E = 110; rw [HE.out]; unfold rf; rw [if_neg t1, if_pos t2]
      clear t1 HE
      by_cases u1 : off < 0
      · clear t2
        go_enter Try.func31, Try.ntmps31
        go_upto_region 1 with fail
        rw [HWW.out, HBB.out]
        go_wp2
        go_ret
        exact ⟨by rw [HR.out]; rfl, hb⟩
      · by_cases u2 : off.tmod 8 ≠ 0
        · have u2b : (off % 8 != 0) = true := by rw [bne_iff_ne, ← tm off (by omega)]; exact u2
          clear t2 u2
          go_enter Try.func31, Try.ntmps31
          go_upto_region 1 with fail
          rw [HWW.out, HBB.out]
          go_wp2
          go_ret
          exact ⟨by rw [HR.out]; rfl, hb⟩
        · obtain ⟨rfl, u3⟩ : more = true ∧ (n : Int).tmod 8 ≠ 0 := by
            rcases t2 with k | k | k
            · exact absurd k u1
            · exact absurd k u2
            · exact k
          have u2b : (off % 8 != 0) = false := by rw [bne_eq_false_iff_eq, ← tm off (by omega)]; exact Classical.byContradiction fun k => u2 k
          have u3b : ((n : Int) % 8 != 0) = true := by rw [bne_iff_ne, ← tm n (by omega)]; exact u3
          clear t2 u2 u3
          go_enter Try.func31, Try.ntmps31
          go_upto_region 1 with fail
          rw [HWW.out, HBB.out]
          go_wp2
          go_ret
          exact ⟨by rw [HR.out]; rfl, hb⟩
    · have u1 : ¬ off < 0 := fun k => t2 (.inl k)
      have u2b : (off % 8 != 0) = false := by rw [bne_eq_false_iff_eq, ← tm off (by omega)]; exact Classical.byContradiction fun k => t2 (.inr (.inl k))
      have u3b : (more && ((n : Int) % 8 != 0)) = false := by
        cases more
        · rfl
        · rw [Bool.true_and, bne_eq_false_iff_eq, ← tm n (by omega)]; exact Classical.byContradiction fun k => t2 (.inr (.inr ⟨rfl, k⟩))
      by_cases t3 : n = 0
      · have HR : Hid (E = 111) := by show E = 111; rw [HE.out]; unfold rf; rw [if_neg t1, if_neg t2, if_pos t3]
        have d3 : ((n : Int) == 0) = true := by rw [beq_iff_eq]; omega
        clear t1 t2 t3 HE
        cases more
        · go_enter Try.func31, Try.ntmps31
          go_upto_region 1 with fail
          rw [HWW.out, HBB.out]
          go_wp2
          go_ret
          exact ⟨by rw [HR.out]; rfl, hb⟩
        · rw [Bool.true_and] at u3b
          go_enter Try.func31, Try.ntmps31
          go_upto_region 1 with fail
          rw [HWW.out, HBB.out]
          go_wp2
          go_ret
          exact ⟨by rw [HR.out]; rfl, hb⟩
      · have d3 : ((n : Int) == 0) = false := by rw [beq_eq_false_iff_ne]; omega
        have wr : IntKind.i64.wrap ((s.mx : Int) - (n : Int)) = (s.mx : Int) - (n : Int) := by rw [IntKind.wrap_i64]; omega
        by_cases t4 : (s.mx : Int) - n < off
        · have HR : Hid (E = 112) := by show E = 112; rw [HE.out]; unfold rf; rw [if_neg t1, if_neg t2, if_neg t3, if_pos t4]
          clear t1 t2 t3 HE hm
          cases more
          · go_enter Try.func31, Try.ntmps31
            go_upto_region 1 with fail
            rw [HWW.out, HBB.out]
            go_upto_region 7 with fail
            refine MixH.start (fun A => HAt A H s v ∧ PcAt A B P) (by kernel_rfl) ?_
            obtain ⟨wA, hwA⟩ : ∃ wA, wA = W.drew := ⟨_, rfl⟩
            have hS : HAt wA H s v ∧ PcAt wA B P := by rw [hwA]; exact ⟨HH.out.ch (Ch.refl (fun _ => False) _).drew (fun _ _ => id), PcAt.ch HPC.out (Ch.refl (fun _ => False) _).drew id⟩
            replace hb : Below w.heap.size w wA := by rw [hwA]; exact drew_below hb
            rw [← hwA]
            clear hwA HH HPC
            refine MixH.takes [true, false, true, true, true, false, true] 6 (by kernel_rfl) (by kernel_rfl) (by decide) (by kernel_rfl) hS (fun K hK => ?_)
            simp only [Mix.pick]
            repeat (go_big_quiet_step (fail))
            refine wpQuiet_nil (hK _ ?_)
            clear hK K
            refine MixH.take 5 1 _ (.int .i64 off) rfl (by kernel_rfl) (by kernel_rfl) (by kernel_rfl) (by kernel_rfl) (yields_int (.tmp 34) rfl ⟨B, 0, none⟩ _ rfl rfl (fun A hA => (hA.2.cell 0).trans (by rw [HP.out]; rfl))) hS (fun a' ha => ?_)
            simp only [Act.put, List.setIfInBounds_toArray, List.set_cons_succ, List.set_cons_zero] at ha
            subst ha
            refine MixH.take 4 5 _ (.int .i64 (s.mx : Int)) rfl (by kernel_rfl) (by kernel_rfl) (by kernel_rfl) (by kernel_rfl) (yields_int (.tmp 38) rfl ⟨H, 0, none⟩ _ rfl rfl (fun A hA => hA.1.c0)) hS (fun a' ha => ?_)
            simp only [Act.put, List.setIfInBounds_toArray, List.set_cons_succ, List.set_cons_zero] at ha
            subst ha
            refine MixH.take 3 7 _ (.int .i64 (n : Int)) rfl (by kernel_rfl) (by kernel_rfl) (by kernel_rfl) (by kernel_rfl) (yields_int (.tmp 40) rfl ⟨B, 1, none⟩ _ rfl rfl (fun A hA => (hA.2.cell 1).trans (by rw [HP.out]; rfl))) hS (fun a' ha => ?_)
            simp only [Act.put, List.setIfInBounds_toArray, List.set_cons_succ, List.set_cons_zero] at ha
            subst ha
            refine MixH.takes [false, false, false, false, false, false, false, false, true, true, true] 0 (by kernel_rfl) (by kernel_rfl) (by decide) (by kernel_rfl) hS (fun K hK => ?_)
            simp only [Mix.pick]
            repeat (go_big_quiet_step (fail))
            refine wpQuiet_nil (hK _ ?_)
            clear hK K
            refine MixH.done (by kernel_rfl) ?_
            go_wp2
            go_ret
            exact ⟨by rw [HR.out]; rfl, hb⟩
          · rw [Bool.true_and] at u3b
            go_enter Try.func31, Try.ntmps31
            go_upto_region 1 with fail
            rw [HWW.out, HBB.out]
            go_upto_region 7 with fail
            refine MixH.start (fun A => HAt A H s v ∧ PcAt A B P) (by kernel_rfl) ?_
            obtain ⟨wA, hwA⟩ : ∃ wA, wA = W.drew := ⟨_, rfl⟩
            have hS : HAt wA H s v ∧ PcAt wA B P := by rw [hwA]; exact ⟨HH.out.ch (Ch.refl (fun _ => False) _).drew (fun _ _ => id), PcAt.ch HPC.out (Ch.refl (fun _ => False) _).drew id⟩
            replace hb : Below w.heap.size w wA := by rw [hwA]; exact drew_below hb
            rw [← hwA]
            clear hwA HH HPC
            refine MixH.takes [true, false, true, true, true, false, true] 6 (by kernel_rfl) (by kernel_rfl) (by decide) (by kernel_rfl) hS (fun K hK => ?_)
            simp only [Mix.pick]
            repeat (go_big_quiet_step (fail))
            refine wpQuiet_nil (hK _ ?_)
            clear hK K
            refine MixH.take 5 1 _ (.int .i64 off) rfl (by kernel_rfl) (by kernel_rfl) (by kernel_rfl) (by kernel_rfl) (yields_int (.tmp 34) rfl ⟨B, 0, none⟩ _ rfl rfl (fun A hA => (hA.2.cell 0).trans (by rw [HP.out]; rfl))) hS (fun a' ha => ?_)
            simp only [Act.put, List.setIfInBounds_toArray, List.set_cons_succ, List.set_cons_zero] at ha
            subst ha
            refine MixH.take 4 5 _ (.int .i64 (s.mx : Int)) rfl (by kernel_rfl) (by kernel_rfl) (by kernel_rfl) (by kernel_rfl) (yields_int (.tmp 38) rfl ⟨H, 0, none⟩ _ rfl rfl (fun A hA => hA.1.c0)) hS (fun a' ha => ?_)
            simp only [Act.put, List.setIfInBounds_toArray, List.set_cons_succ, List.set_cons_zero] at ha
            subst ha
            refine MixH.take 3 7 _ (.int .i64 (n : Int)) rfl (by kernel_rfl) (by kernel_rfl) (by kernel_rfl) (by kernel_rfl) (yields_int (.tmp 40) rfl ⟨B, 1, none⟩ _ rfl rfl (fun A hA => (hA.2.cell 1).trans (by rw [HP.out]; rfl))) hS (fun a' ha => ?_)
            simp only [Act.put, List.setIfInBounds_toArray, List.set_cons_succ, List.set_cons_zero] at ha
            subst ha
            refine MixH.takes [false, false, false, false, false, false, false, false, true, true, true] 0 (by kernel_rfl) (by kernel_rfl) (by decide) (by kernel_rfl) hS (fun K hK => ?_)
            simp only [Mix.pick]
            repeat (go_big_quiet_step (fail))
            refine wpQuiet_nil (hK _ ?_)
            clear hK K
            refine MixH.done (by kernel_rfl) ?_
            go_wp2
            go_ret
            exact ⟨by rw [HR.out]; rfl, hb⟩
        · obtain ⟨o, rfl⟩ := Int.eq_ofNat_of_zero_le (show 0 ≤ off by omega)
          have HR : Hid (E = rfE s o n more) := by show E = _; rw [HE.out]; exact rf_end s o n more t1 t2 t3 t4
          have QR : Hid (∀ A : World, HAt A H s v → Calls Try.prog 48 #[.pointer (some ⟨H, 0, none⟩), .agg P] A fun e w' => e = .returned (.int .i64 (rfE s o n more)) ∧ Below A.heap.size A w') := by
            intro A hA
            rw [HP.out]
            exact refuseEnd_any A H s v hA o n more (by omega) (by omega)
          have HP3 : Hid (P.size = 3) := by show P.size = 3; rw [HP.out]; rfl
          clear t1 t2 t3 HE hm
          cases more
          · go_enter Try.func31, Try.ntmps31
            go_upto_region 1 with fail
            rw [HWW.out, HBB.out]
            go_upto_region 7 with fail
            refine MixH.start (fun A => HAt A H s v ∧ PcAt A B P) (by kernel_rfl) ?_
            obtain ⟨wA, hwA⟩ : ∃ wA, wA = W.drew := ⟨_, rfl⟩
            have hS : HAt wA H s v ∧ PcAt wA B P := by rw [hwA]; exact ⟨HH.out.ch (Ch.refl (fun _ => False) _).drew (fun _ _ => id), PcAt.ch HPC.out (Ch.refl (fun _ => False) _).drew id⟩
            replace hb : Below w.heap.size w wA := by rw [hwA]; exact drew_below hb
            rw [← hwA]
            clear hwA HH HPC
            refine MixH.takes [true, false, true, true, true, false, true] 6 (by kernel_rfl) (by kernel_rfl) (by decide) (by kernel_rfl) hS (fun K hK => ?_)
            simp only [Mix.pick]
            repeat (go_big_quiet_step (fail))
            refine wpQuiet_nil (hK _ ?_)
            clear hK K
            refine MixH.take 5 1 _ (.int .i64 (o : Int)) rfl (by kernel_rfl) (by kernel_rfl) (by kernel_rfl) (by kernel_rfl) (yields_int (.tmp 34) rfl ⟨B, 0, none⟩ _ rfl rfl (fun A hA => (hA.2.cell 0).trans (by rw [HP.out]; rfl))) hS (fun a' ha => ?_)
            simp only [Act.put, List.setIfInBounds_toArray, List.set_cons_succ, List.set_cons_zero] at ha
            subst ha
            refine MixH.take 4 5 _ (.int .i64 (s.mx : Int)) rfl (by kernel_rfl) (by kernel_rfl) (by kernel_rfl) (by kernel_rfl) (yields_int (.tmp 38) rfl ⟨H, 0, none⟩ _ rfl rfl (fun A hA => hA.1.c0)) hS (fun a' ha => ?_)
            simp only [Act.put, List.setIfInBounds_toArray, List.set_cons_succ, List.set_cons_zero] at ha
            subst ha
            refine MixH.take 3 7 _ (.int .i64 (n : Int)) rfl (by kernel_rfl) (by kernel_rfl) (by kernel_rfl) (by kernel_rfl) (yields_int (.tmp 40) rfl ⟨B, 1, none⟩ _ rfl rfl (fun A hA => (hA.2.cell 1).trans (by rw [HP.out]; rfl))) hS (fun a' ha => ?_)
            simp only [Act.put, List.setIfInBounds_toArray, List.set_cons_succ, List.set_cons_zero] at ha
            subst ha
            refine MixH.takes [false, false, false, false, false, false, false, false, true, true, true] 0 (by kernel_rfl) (by kernel_rfl) (by decide) (by kernel_rfl) hS (fun K hK => ?_)
            simp only [Mix.pick]
            repeat (go_big_quiet_step (fail))
            refine wpQuiet_nil (hK _ ?_)
            clear hK K
            refine MixH.done (by kernel_rfl) ?_
            have hPA := hS.2
            have QA : Hid _ := QR.out wA hS.1
            clear hS QR
            go_wp2_with (first | (refine wpList_load_Pc (.tmp 3) rfl B P HP3.out rfl hPA rfl ?_))
            refine Calls.mono QA.out ?_
            rintro e wE ⟨rfl, hbE⟩
            replace hb : Below w.heap.size w wE := hb.trans (hbE.mono hb.size)
            clear hbE QA hPA
            go_wp2
            go_ret
            exact ⟨by rw [HR.out]; rfl, hb⟩
          · rw [Bool.true_and] at u3b
            go_enter Try.func31, Try.ntmps31
            go_upto_region 1 with fail
            rw [HWW.out, HBB.out]
            go_upto_region 7 with fail
            refine MixH.start (fun A => HAt A H s v ∧ PcAt A B P) (by kernel_rfl) ?_
            obtain ⟨wA, hwA⟩ : ∃ wA, wA = W.drew := ⟨_, rfl⟩
            have hS : HAt wA H s v ∧ PcAt wA B P := by rw [hwA]; exact ⟨HH.out.ch (Ch.refl (fun _ => False) _).drew (fun _ _ => id), PcAt.ch HPC.out (Ch.refl (fun _ => False) _).drew id⟩
            replace hb : Below w.heap.size w wA := by rw [hwA]; exact drew_below hb
            rw [← hwA]
            clear hwA HH HPC
            refine MixH.takes [true, false, true, true, true, false, true] 6 (by kernel_rfl) (by kernel_rfl) (by decide) (by kernel_rfl) hS (fun K hK => ?_)
            simp only [Mix.pick]
            repeat (go_big_quiet_step (fail))
            refine wpQuiet_nil (hK _ ?_)
            clear hK K
            refine MixH.take 5 1 _ (.int .i64 (o : Int)) rfl (by kernel_rfl) (by kernel_rfl) (by kernel_rfl) (by kernel_rfl) (yields_int (.tmp 34) rfl ⟨B, 0, none⟩ _ rfl rfl (fun A hA => (hA.2.cell 0).trans (by rw [HP.out]; rfl))) hS (fun a' ha => ?_)
            simp only [Act.put, List.setIfInBounds_toArray, List.set_cons_succ, List.set_cons_zero] at ha
            subst ha
            refine MixH.take 4 5 _ (.int .i64 (s.mx : Int)) rfl (by kernel_rfl) (by kernel_rfl) (by kernel_rfl) (by kernel_rfl) (yields_int (.tmp 38) rfl ⟨H, 0, none⟩ _ rfl rfl (fun A hA => hA.1.c0)) hS (fun a' ha => ?_)
            simp only [Act.put, List.setIfInBounds_toArray, List.set_cons_succ, List.set_cons_zero] at ha
            subst ha
            refine MixH.take 3 7 _ (.int .i64 (n : Int)) rfl (by kernel_rfl) (by kernel_rfl) (by kernel_rfl) (by kernel_rfl) (yields_int (.tmp 40) rfl ⟨B, 1, none⟩ _ rfl rfl (fun A hA => (hA.2.cell 1).trans (by rw [HP.out]; rfl))) hS (fun a' ha => ?_)
            simp only [Act.put, List.setIfInBounds_toArray, List.set_cons_succ, List.set_cons_zero] at ha
            subst ha
            refine MixH.takes [false, false, false, false, false, false, false, false, true, true, true] 0 (by kernel_rfl) (by kernel_rfl) (by decide) (by kernel_rfl) hS (fun K hK => ?_)
            simp only [Mix.pick]
            repeat (go_big_quiet_step (fail))
            refine wpQuiet_nil (hK _ ?_)
            clear hK K
            refine MixH.done (by kernel_rfl) ?_
            have hPA := hS.2
            have QA : Hid _ := QR.out wA hS.1
            clear hS QR
            go_wp2_with (first | (refine wpList_load_Pc (.tmp 3) rfl B P HP3.out rfl hPA rfl ?_))
            refine Calls.mono QA.out ?_
            rintro e wE ⟨rfl, hbE⟩
            replace hb : Below w.heap.size w wE := hb.trans (hbE.mono hb.size)
            clear hbE QA hPA
            go_wp2
            go_ret
            exact ⟨by rw [HR.out]; rfl, hb⟩
end H11
end Go.Proofs.Ytcoaghcmbhogjaa
