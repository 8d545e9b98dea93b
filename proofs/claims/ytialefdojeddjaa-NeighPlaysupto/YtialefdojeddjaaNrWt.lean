/-
  Layer 15's reference: Want.
-/
import Derived.Test.YtialefdojeddjaaNrKy
import Derived.Deep.CutBlock
namespace Go.Proofs.Ytialefdojeddjaa
open Go.RowKit Go.Maps

def RWantP (rc : RC) (R : List RE) (k : KV) (item : Int) (w : World) (r : Ending) (w' : World) : Prop :=
  ∃ rc' R' m oc er, r = .returned (.tuple #[.agg (rcC rc'), .agg (macC m), .int .i64 oc, .int .i64 er]) ∧ RWantR rc.c R k item R' m oc er ∧ rc'.c = rc.c ∧ RSt rc' R' w' ∧ Below w.heap.size w w' ∧ ∀ q, RB rc' R' q → RB rc R q ∨ w.heap.size ≤ q
set_option maxHeartbeats 12800000 in
set_option maxRecDepth 100000 in
theorem rwant_any (rc : RC) (R : List RE) (k : KV) (item : Int) (w : World) (h : RSt rc R w) (hl : rc.n ≤ 1024) (hk : k.Wf) (hw : ∀ e ∈ R, e.n.k.Wf) (h64 : ∀ e ∈ R, e.n.ln.length ≤ 64) :
    Calls Try.prog 73 #[.agg (rcC rc), .int .i64 k.pt, .agg (ipCells k.V k.x), .int .i64 item] w fun r w' => RWantP rc R k item w r w' := by
  have hi := rch_new w rc
  have hi' := ipr_new (w.alloc (.cells (rcC rc) 87)) k.V k.x
  rw [World.size_alloc] at hi'
  obtain ⟨Y, hY⟩ : ∃ Y, Y = (w.alloc (.cells (rcC rc) 87)).alloc (.cells (ipCells k.V k.x) 31) := ⟨_, rfl⟩
  have bY : Below w.heap.size w Y := by rw [hY]; exact ((Below.refl _ _).alloc (Nat.le_refl _) _).alloc (by simp) _
  have hi2 : RchAt Y w.heap.size rc := by rw [hY]; exact hi.below ((Below.refl _ _).alloc (Nat.le_refl _) _)
  rw [← hY] at hi'
  have hsz : Y.heap.size = w.heap.size + 2 := by rw [hY, World.size_alloc, World.size_alloc]
  obtain ⟨B, hB⟩ : ∃ B, B = w.heap.size := ⟨_, rfl⟩
  rw [← hB] at hi2 hi' hsz
  obtain ⟨CI, hCI⟩ : ∃ C, C = rcC rc := ⟨_, rfl⟩
  obtain ⟨CM, hCM⟩ : ∃ C, C = ipCells k.V k.x := ⟨_, rfl⟩
  rw [← hCI, ← hCM] at hY ⊢
  obtain ⟨Z1, hZ1⟩ : ∃ Z, Z = Y.alloc (.cells (rcC rcz) 87) := ⟨_, rfl⟩
  have b1 : Below Y.heap.size Y Z1 := by rw [hZ1]; exact (Below.refl _ _).alloc (Nat.le_refl _) _
  have s1 : Z1.heap.size = B + 3 := by rw [hZ1, World.size_alloc, hsz]
  obtain ⟨Z2, hZ2⟩ : ∃ Z, Z = Z1.alloc (.cells (macC mz) 33) := ⟨_, rfl⟩
  have b2 : Below Z1.heap.size Z1 Z2 := by rw [hZ2]; exact (Below.refl _ _).alloc (Nat.le_refl _) _
  have s2 : Z2.heap.size = B + 4 := by rw [hZ2, World.size_alloc, s1]
  obtain ⟨Z3, hZ3⟩ : ∃ Z, Z = Z2.alloc (.cells (macC mz) 33) := ⟨_, rfl⟩
  have b3 : Below Z2.heap.size Z2 Z3 := by rw [hZ3]; exact (Below.refl _ _).alloc (Nat.le_refl _) _
  have s3 : Z3.heap.size = B + 5 := by rw [hZ3, World.size_alloc, s2]
  have m1 : RchAt Z1 (B + 2) rcz := by rw [hZ1, ← hsz]; exact rch_new Y rcz
  have m2 : MacAt Z2 (B + 3) mz := by rw [hZ2, ← s1]; exact mac_new Z1 mz
  have m3 : MacAt Z3 (B + 4) mz := by rw [hZ3, ← s2]; exact mac_new Z2 mz
  have HZ : Hid (WS w B rc k Z3) := ⟨((hi2.below b1).below b2).below b3, ((hi'.below b1).below b2).below b3, (m1.below b2).below b3, m2.below b3, m3, bthen (bthen (bthen bY b1) b2) b3, by omega⟩
  have HW : Hid ((w.alloc (.cells CI 87)).alloc (.cells CM 31) = Y ∧ Y.heap.size = B + 2 ∧ Y.alloc (.cells (rcC rcz) 87) = Z1 ∧ Z1.heap.size = B + 3 ∧ Z1.alloc (.cells (macC mz) 33) = Z2 ∧ Z2.heap.size = B + 4 ∧ Z2.alloc (.cells (macC mz) 33) = Z3) := ⟨hY.symm, hsz, hZ1.symm, s1, hZ2.symm, s2, hZ3.symm⟩
  have HOX : Hid (w.heap.size = B) := hB.symm
  have HRS : Hid (∀ A, Below w.heap.size w A → RSt rc R A) := fun A b => h.below b
  have HLT : Hid (∀ q, RB rc R q → q < B) := fun q hq => by rw [hB]; exact h.lt q hq
  obtain ⟨n, hnn⟩ : ∃ n, n = rc.n := ⟨_, rfl⟩
  have HN : Hid (R.length = n ∧ n ≤ 1024 ∧ n = rc.n ∧ k.Wf ∧ (∀ e ∈ R, e.n.k.Wf) ∧ ∀ e ∈ R, e.n.ln.length ≤ 64) := ⟨h.len.trans hnn.symm, by omega, hnn, hk, hw, h64⟩
  clear hi hi' hY bY hi2 hB hCI hCM hsz hZ1 hZ2 hZ3 b1 b2 b3 s1 s2 s3 m1 m2 m3 h hl hk hw h64 hnn
  go_enter Try.func73, Try.ntmps73
  go_upto_region 1 with (first | (rw [HW.out.1]; refine wpList_alloc_rch rfl rfl ?_; rw [HW.out.2.1, HW.out.2.2.1]; simp only [Act.put, List.setIfInBounds_toArray, List.set_cons_succ, List.set_cons_zero]) | (refine wpList_alloc_mac rfl rfl ?_; rw [HW.out.2.2.2.1, HW.out.2.2.2.2.1]; simp only [Act.put, List.setIfInBounds_toArray, List.set_cons_succ, List.set_cons_zero]))
  rw [HOX.out]
  go_wp2_with (first | (refine wpList_build_mac0 rfl rfl ?_) | (refine wpList_alloc_mac rfl rfl ?_; rw [HW.out.2.2.2.2.2.1, HW.out.2.2.2.2.2.2]; simp only [Act.put, List.setIfInBounds_toArray, List.set_cons_succ, List.set_cons_zero]) | (refine wpList_store_mac (.tmp 12) (.tmp 19) rfl rfl (B + 4) mz mz rfl rfl HZ.out.no rfl ?_))
  intro w1 h1 k1
  have H1 : Hid (WS w B rc k w1) := ⟨HZ.out.c.ch k1 (by omega), HZ.out.ip.ch k1 (by omega), HZ.out.rc.ch k1 (by omega), HZ.out.rm.ch k1 (by omega), h1, HZ.out.bel.trans (k1.below (fun q e => by have e' : q = B + 4 := e; have := HOX.out; omega) HZ.out.bel.size), Nat.le_trans HZ.out.sz k1.size⟩
  clear h1 k1 HZ HW
  go_wp2_with (first | (refine wpList_load_ipr (.tmp 6) rfl (B + 1) k.V k.x rfl H1.out.ip rfl ?_))
  refine Calls.mono (raddr_any k.V k.x w1) ?_
  rintro r w2 ⟨rfl, b2⟩
  have H2 : Hid (WS w B rc k w2) := H1.out.below b2
  clear b2 H1
  cases hip : ipB k.V k.x with
  | false =>
    have HKB : Hid (kB k = false) := by show kB k = false; unfold kB; rw [hip, Bool.and_false]
    clear hip
    go_upto_region 4 with fail
    have HX : Hid (EX w B rc (B + 4) 0 mz R w2 ∧ RchAt w2 (B + 2) rcz ∧ MacAt w2 (B + 3) mz) := ⟨⟨H2.out.c, MacAt.all H2.out.no, H2.out.bel, HRS.out w2 H2.out.bel⟩, H2.out.rc, H2.out.rm⟩
    have HD : Hid (B ≠ B + 2 ∧ B ≠ B + 3 ∧ B + 4 ≠ B + 2 ∧ B + 4 ≠ B + 3) := ⟨by omega, by omega, by omega, by omega⟩
    have HRB : Hid (∀ q, RB rc R q → RB rc R q ∨ B + 5 ≤ q) := fun q hq => .inl hq
    have HRES : Hid (RWantR rc.c R k item R mz 5 1 ∧ rc.c = rc.c) := ⟨.inl ⟨HKB.out, rfl, rfl, rfl, rfl⟩, rfl⟩
    clear H2
    refine MixH.start (fun A => EX w B rc (B + 4) 0 mz R A) (by kernel_rfl) ?_
    obtain ⟨wA, hwA⟩ : ∃ wA, wA = w2.drew := ⟨_, rfl⟩
    have bdr : Below w2.heap.size w2 wA := by rw [hwA]; exact (Below.refl _ _).drew
    have HA : Hid (RchAt wA (B + 2) rcz ∧ MacAt wA (B + 3) mz) := ⟨HX.out.2.1.below bdr, HX.out.2.2.below bdr⟩
    have hS : EX w B rc (B + 4) 0 mz R wA := HX.out.1.drew bdr
    rw [← hwA]
    clear hwA bdr HX
    refine MixH.take 5 0 _ (.agg (rcC rc)) rfl (by kernel_rfl) (by kernel_rfl) (by kernel_rfl) (by kernel_rfl) (yields_rch (.tmp 4) rfl B 0 rc rfl rfl (fun A hA => RchAt.all hA.1)) hS (fun a' ha => ?_)
    simp only [Act.put, List.setIfInBounds_toArray, List.set_cons_succ, List.set_cons_zero] at ha
    subst ha
    refine MixH.take 4 1 _ (.agg (macC mz)) rfl (by kernel_rfl) (by kernel_rfl) (by kernel_rfl) (by kernel_rfl) (yields_mac (.tmp 12) rfl (B + 4) 0 mz rfl rfl (fun A hA => hA.2.1)) hS (fun a' ha => ?_)
    simp only [Act.put, List.setIfInBounds_toArray, List.set_cons_succ, List.set_cons_zero] at ha
    subst ha
    refine MixH.one [false, false, true] 3 2 _ rfl rfl (by kernel_rfl) (by kernel_rfl) (fun K hK => ?_)
    simp only [Mix.pick]
    refine wpList_store_rch (.tmp 8) (.tmp 28) rfl rfl (B + 2) rcz rc rfl rfl HA.out.1 rfl ?_
    intro wE hE kE
    have HE : Hid (RchAt wE (B + 2) rc ∧ MacAt wE (B + 3) mz) := ⟨hE, HA.out.2.ch kE (by omega)⟩
    replace hS : EX w B rc (B + 4) 0 mz R wE := hS.ch kE HD.out.1 HD.out.2.2.1 (by have := HOX.out; omega) (fun q hq e => rb_ne HLT.out (HRB.out q hq) (by omega) (by omega) e)
    clear hE kE HA
    go_wp2
    refine ⟨rfl, hK _ _ hS ?_⟩
    clear hK K
    refine MixH.one [false, false, false, true] 2 3 _ rfl rfl (by kernel_rfl) (by kernel_rfl) (fun K hK => ?_)
    simp only [Mix.pick]
    refine wpList_store_mac (.tmp 9) (.tmp 29) rfl rfl (B + 3) mz mz rfl rfl HE.out.2 rfl ?_
    intro wF hF kF
    have HF : Hid (RchAt wF (B + 2) rc ∧ MacAt wF (B + 3) mz) := ⟨HE.out.1.ch kF (by omega), hF⟩
    replace hS : EX w B rc (B + 4) 0 mz R wF := hS.ch kF HD.out.2.1 HD.out.2.2.2 (by have := HOX.out; omega) (fun q hq e => rb_ne HLT.out (HRB.out q hq) (by omega) (by omega) e)
    clear hF kF HE
    go_wp2
    refine ⟨rfl, hK _ _ hS ?_⟩
    clear hK K
    refine MixH.takes [false, false, false, false, true] 1 (by kernel_rfl) (by kernel_rfl) (by decide) (by kernel_rfl) hS (fun K hK => ?_)
    simp only [Mix.pick]
    repeat (go_big_quiet_step (fail))
    refine wpQuiet_nil (hK _ ?_)
    clear hK K
    refine MixH.takes [false, false, false, false, false, true] 0 (by kernel_rfl) (by kernel_rfl) (by decide) (by kernel_rfl) hS (fun K hK => ?_)
    simp only [Mix.pick]
    repeat (go_big_quiet_step (fail))
    refine wpQuiet_nil (hK _ ?_)
    clear hK K
    refine MixH.done (by kernel_rfl) ?_
    have HEND : Hid (EX w B rc (B + 4) 0 mz R wF) := hS
    clear hS
    go_wp2_with fail
    refine bodyPost_ret (results_want rfl _ _ (B + 2) _ (B + 3) _ rfl rfl HF.out.1 HF.out.2) rfl ?_
    exact ⟨rc, R, mz, 5, 1, rfl, HRES.out.1, rfl, HEND.out.2.2.2, HEND.out.2.2.1, fun q hq => (HRB.out q hq).imp id (fun g => by have := HOX.out; omega)⟩
  | true =>
    cases hin : inR k.pt 0 7 with
    | false =>
      have HKB : Hid (kB k = false) := by show kB k = false; unfold kB; rw [hin, Bool.false_and]
      have QO : Hid (Calls Try.prog 79 #[.int .i64 k.pt, .int .i64 0, .int .i64 7] w2 fun e w' => e = .returned (.bool true) ∧ w2 = w') := by
        refine (rout_any k.pt 0 7 w2).mono ?_
        rintro e w' ⟨rfl, rfl⟩
        rw [hin]
        exact ⟨rfl, rfl⟩
      clear hip hin
      go_wp2_with fail
      refine Calls.mono QO.out ?_
      rintro r x ⟨rfl, rfl⟩
      clear QO
      go_upto_region 4 with fail
      have HX : Hid (EX w B rc (B + 4) 0 mz R w2 ∧ RchAt w2 (B + 2) rcz ∧ MacAt w2 (B + 3) mz) := ⟨⟨H2.out.c, MacAt.all H2.out.no, H2.out.bel, HRS.out w2 H2.out.bel⟩, H2.out.rc, H2.out.rm⟩
      have HD : Hid (B ≠ B + 2 ∧ B ≠ B + 3 ∧ B + 4 ≠ B + 2 ∧ B + 4 ≠ B + 3) := ⟨by omega, by omega, by omega, by omega⟩
      have HRB : Hid (∀ q, RB rc R q → RB rc R q ∨ B + 5 ≤ q) := fun q hq => .inl hq
      have HRES : Hid (RWantR rc.c R k item R mz 5 1 ∧ rc.c = rc.c) := ⟨.inl ⟨HKB.out, rfl, rfl, rfl, rfl⟩, rfl⟩
      clear H2
      refine MixH.start (fun A => EX w B rc (B + 4) 0 mz R A) (by kernel_rfl) ?_
      obtain ⟨wA, hwA⟩ : ∃ wA, wA = w2.drew := ⟨_, rfl⟩
      have bdr : Below w2.heap.size w2 wA := by rw [hwA]; exact (Below.refl _ _).drew
      have HA : Hid (RchAt wA (B + 2) rcz ∧ MacAt wA (B + 3) mz) := ⟨HX.out.2.1.below bdr, HX.out.2.2.below bdr⟩
      have hS : EX w B rc (B + 4) 0 mz R wA := HX.out.1.drew bdr
      rw [← hwA]
      clear hwA bdr HX
      refine MixH.take 5 0 _ (.agg (rcC rc)) rfl (by kernel_rfl) (by kernel_rfl) (by kernel_rfl) (by kernel_rfl) (yields_rch (.tmp 4) rfl B 0 rc rfl rfl (fun A hA => RchAt.all hA.1)) hS (fun a' ha => ?_)
      simp only [Act.put, List.setIfInBounds_toArray, List.set_cons_succ, List.set_cons_zero] at ha
      subst ha
      refine MixH.take 4 1 _ (.agg (macC mz)) rfl (by kernel_rfl) (by kernel_rfl) (by kernel_rfl) (by kernel_rfl) (yields_mac (.tmp 12) rfl (B + 4) 0 mz rfl rfl (fun A hA => hA.2.1)) hS (fun a' ha => ?_)
      simp only [Act.put, List.setIfInBounds_toArray, List.set_cons_succ, List.set_cons_zero] at ha
      subst ha
      refine MixH.one [false, false, true] 3 2 _ rfl rfl (by kernel_rfl) (by kernel_rfl) (fun K hK => ?_)
      simp only [Mix.pick]
      refine wpList_store_rch (.tmp 8) (.tmp 28) rfl rfl (B + 2) rcz rc rfl rfl HA.out.1 rfl ?_
      intro wE hE kE
      have HE : Hid (RchAt wE (B + 2) rc ∧ MacAt wE (B + 3) mz) := ⟨hE, HA.out.2.ch kE (by omega)⟩
      replace hS : EX w B rc (B + 4) 0 mz R wE := hS.ch kE HD.out.1 HD.out.2.2.1 (by have := HOX.out; omega) (fun q hq e => rb_ne HLT.out (HRB.out q hq) (by omega) (by omega) e)
      clear hE kE HA
      go_wp2
      refine ⟨rfl, hK _ _ hS ?_⟩
      clear hK K
      refine MixH.one [false, false, false, true] 2 3 _ rfl rfl (by kernel_rfl) (by kernel_rfl) (fun K hK => ?_)
      simp only [Mix.pick]
      refine wpList_store_mac (.tmp 9) (.tmp 29) rfl rfl (B + 3) mz mz rfl rfl HE.out.2 rfl ?_
      intro wF hF kF
      have HF : Hid (RchAt wF (B + 2) rc ∧ MacAt wF (B + 3) mz) := ⟨HE.out.1.ch kF (by omega), hF⟩
      replace hS : EX w B rc (B + 4) 0 mz R wF := hS.ch kF HD.out.2.1 HD.out.2.2.2 (by have := HOX.out; omega) (fun q hq e => rb_ne HLT.out (HRB.out q hq) (by omega) (by omega) e)
      clear hF kF HE
      go_wp2
      refine ⟨rfl, hK _ _ hS ?_⟩
      clear hK K
      refine MixH.takes [false, false, false, false, true] 1 (by kernel_rfl) (by kernel_rfl) (by decide) (by kernel_rfl) hS (fun K hK => ?_)
      simp only [Mix.pick]
      repeat (go_big_quiet_step (fail))
      refine wpQuiet_nil (hK _ ?_)
      clear hK K
      refine MixH.takes [false, false, false, false, false, true] 0 (by kernel_rfl) (by kernel_rfl) (by decide) (by kernel_rfl) hS (fun K hK => ?_)
      simp only [Mix.pick]
      repeat (go_big_quiet_step (fail))
      refine wpQuiet_nil (hK _ ?_)
      clear hK K
      refine MixH.done (by kernel_rfl) ?_
      have HEND : Hid (EX w B rc (B + 4) 0 mz R wF) := hS
      clear hS
      go_wp2_with fail
      refine bodyPost_ret (results_want rfl _ _ (B + 2) _ (B + 3) _ rfl rfl HF.out.1 HF.out.2) rfl ?_
      exact ⟨rc, R, mz, 5, 1, rfl, HRES.out.1, rfl, HEND.out.2.2.2, HEND.out.2.2.1, fun q hq => (HRB.out q hq).imp id (fun g => by have := HOX.out; omega)⟩
    | true =>
      have HKB : Hid (kB k = true) := by show kB k = true; unfold kB; rw [hin, hip]; rfl
      have QO : Hid (Calls Try.prog 79 #[.int .i64 k.pt, .int .i64 0, .int .i64 7] w2 fun e w' => e = .returned (.bool false) ∧ w2 = w') := by
        refine (rout_any k.pt 0 7 w2).mono ?_
        rintro e w' ⟨rfl, rfl⟩
        rw [hin]
        exact ⟨rfl, rfl⟩
      have QF : Hid _ := rfind_any rc R k.pt k.V k.x w2 (HRS.out w2 H2.out.bel).er (HRS.out w2 H2.out.bel).len (by have := HN.out; omega)
      obtain ⟨fd, hfd⟩ : ∃ fd, fd = fdI R ⟨k.pt, k.V, k.x⟩ 0 := ⟨_, rfl⟩
      rw [← hfd] at QF
      have HFD : Hid (fd = fdI R ⟨k.pt, k.V, k.x⟩ 0) := hfd
      clear hip hin hfd
      go_wp2_with fail
      refine Calls.mono QO.out ?_
      rintro r x ⟨rfl, rfl⟩
      clear QO
      go_wp2_with (first | (refine wpList_load_rch (.tmp 4) rfl B rc rfl H2.out.c rfl ?_) | (refine wpList_load_ipr (.tmp 6) rfl (B + 1) k.V k.x rfl H2.out.ip rfl ?_))
      refine Calls.mono QF.out ?_
      rintro r w3 ⟨rfl, b3⟩
      have H3 : Hid (WS w B rc k w3) := H2.out.below b3
      clear b3 QF H2
      rcases fdI_cases k R 0 with ⟨g1, g2⟩ | ⟨i, e, g1, g2, g3⟩
      · obtain rfl : fd = -1 := by rw [HFD.out]; exact g1
        have HNO : Hid (∀ r ∈ R, eqP r.n.k k = false) := g2
        clear g1 g2 HFD
        have QR : Hid _ := rroom_rs (HRS.out w3 H3.out.bel) (by have := HN.out; omega)
        go_wp2_with (first | (refine wpList_load_rch (.tmp 4) rfl B rc rfl H3.out.c rfl ?_))
        refine Calls.mono QR.out ?_
        rintro r w4 ⟨b4, hq4⟩
        have H4 : Hid (WS w B rc k w4) := H3.out.below b4
        clear b4 QR H3
        rcases hq4 with ⟨g1, g2, rfl⟩ | ⟨rcd, L, rfl, g1, g2, g3, g4⟩
        · have HOL : Hid (¬ (R.length : Int) < rc.c.mx ∧ OldI R R.length none) := ⟨g1, g2⟩
          clear g1 g2
          obtain ⟨Z, hZ⟩ : ∃ Z, Z = w4.alloc (.cells (rcC rcz) 87) := ⟨_, rfl⟩
          obtain ⟨D, hD⟩ : ∃ D, D = w4.heap.size := ⟨_, rfl⟩
          have bZ : Below w4.heap.size w4 Z := by rw [hZ]; exact (Below.refl _ _).alloc (Nat.le_refl _) _
          have HZD : Hid (RchAt Z D rcz ∧ WS w B rc k Z ∧ B + 5 ≤ D) := ⟨by rw [hZ, hD]; exact rch_new w4 rcz, H4.out.below bZ, by rw [hD]; exact H4.out.sz⟩
          have HZE : Hid (w4.heap.size = D ∧ w4.alloc (.cells (rcC rcz) 87) = Z) := ⟨hD.symm, hZ.symm⟩
          clear hZ hD bZ H4
          go_wp2_with (first | (refine wpList_alloc_rch rfl rfl ?_; rw [HZE.out.1, HZE.out.2]; simp only [Act.put, List.setIfInBounds_toArray, List.set_cons_succ, List.set_cons_zero]) | (refine wpList_store_rch (.tmp 15) (.tmp 39) rfl rfl D rcz rc rfl rfl HZD.out.1 rfl ?_))
          intro w5 h5 k5
          have H5 : Hid (WS w B rc k w5) := HZD.out.2.1.ch k5 (fun q e => by have e' : q = D := e; have := HZD.out.2.2; omega) HOX.out
          clear h5 k5 HZD HZE
          go_upto_region 9 with fail
          have HX : Hid (EX w B rc (B + 4) 0 mz R w5 ∧ RchAt w5 (B + 2) rcz ∧ MacAt w5 (B + 3) mz) := ⟨⟨H5.out.c, MacAt.all H5.out.no, H5.out.bel, HRS.out w5 H5.out.bel⟩, H5.out.rc, H5.out.rm⟩
          have HD : Hid (B ≠ B + 2 ∧ B ≠ B + 3 ∧ B + 4 ≠ B + 2 ∧ B + 4 ≠ B + 3) := ⟨by omega, by omega, by omega, by omega⟩
          have HRB : Hid (∀ q, RB rc R q → RB rc R q ∨ B + 5 ≤ q) := fun q hq => .inl hq
          have HRES : Hid (RWantR rc.c R k item R mz 5 151 ∧ rc.c = rc.c) := ⟨.inr ⟨HKB.out, .inl ⟨HNO.out, ⟨⟨k, mz, 1, 0, 1, [item]⟩, none, 0⟩, rfl, .inr (.inl ⟨by have := HOL.out.1; omega, HOL.out.2, rfl, rfl⟩), rfl, rfl⟩⟩, rfl⟩
          clear H5
          refine MixH.start (fun A => EX w B rc (B + 4) 0 mz R A) (by kernel_rfl) ?_
          obtain ⟨wA, hwA⟩ : ∃ wA, wA = w5.drew := ⟨_, rfl⟩
          have bdr : Below w5.heap.size w5 wA := by rw [hwA]; exact (Below.refl _ _).drew
          have HA : Hid (RchAt wA (B + 2) rcz ∧ MacAt wA (B + 3) mz) := ⟨HX.out.2.1.below bdr, HX.out.2.2.below bdr⟩
          have hS : EX w B rc (B + 4) 0 mz R wA := HX.out.1.drew bdr
          rw [← hwA]
          clear hwA bdr HX
          refine MixH.take 5 0 _ (.agg (rcC rc)) rfl (by kernel_rfl) (by kernel_rfl) (by kernel_rfl) (by kernel_rfl) (yields_rch (.tmp 4) rfl B 0 rc rfl rfl (fun A hA => RchAt.all hA.1)) hS (fun a' ha => ?_)
          simp only [Act.put, List.setIfInBounds_toArray, List.set_cons_succ, List.set_cons_zero] at ha
          subst ha
          refine MixH.take 4 1 _ (.agg (macC mz)) rfl (by kernel_rfl) (by kernel_rfl) (by kernel_rfl) (by kernel_rfl) (yields_mac (.tmp 12) rfl (B + 4) 0 mz rfl rfl (fun A hA => hA.2.1)) hS (fun a' ha => ?_)
          simp only [Act.put, List.setIfInBounds_toArray, List.set_cons_succ, List.set_cons_zero] at ha
          subst ha
          refine MixH.one [false, false, true] 3 2 _ rfl rfl (by kernel_rfl) (by kernel_rfl) (fun K hK => ?_)
          simp only [Mix.pick]
          refine wpList_store_rch (.tmp 8) (.tmp 43) rfl rfl (B + 2) rcz rc rfl rfl HA.out.1 rfl ?_
          intro wE hE kE
          have HE : Hid (RchAt wE (B + 2) rc ∧ MacAt wE (B + 3) mz) := ⟨hE, HA.out.2.ch kE (by omega)⟩
          replace hS : EX w B rc (B + 4) 0 mz R wE := hS.ch kE HD.out.1 HD.out.2.2.1 (by have := HOX.out; omega) (fun q hq e => rb_ne HLT.out (HRB.out q hq) (by omega) (by omega) e)
          clear hE kE HA
          go_wp2
          refine ⟨rfl, hK _ _ hS ?_⟩
          clear hK K
          refine MixH.one [false, false, false, true] 2 3 _ rfl rfl (by kernel_rfl) (by kernel_rfl) (fun K hK => ?_)
          simp only [Mix.pick]
          refine wpList_store_mac (.tmp 9) (.tmp 44) rfl rfl (B + 3) mz mz rfl rfl HE.out.2 rfl ?_
          intro wF hF kF
          have HF : Hid (RchAt wF (B + 2) rc ∧ MacAt wF (B + 3) mz) := ⟨HE.out.1.ch kF (by omega), hF⟩
          replace hS : EX w B rc (B + 4) 0 mz R wF := hS.ch kF HD.out.2.1 HD.out.2.2.2 (by have := HOX.out; omega) (fun q hq e => rb_ne HLT.out (HRB.out q hq) (by omega) (by omega) e)
          clear hF kF HE
          go_wp2
          refine ⟨rfl, hK _ _ hS ?_⟩
          clear hK K
          refine MixH.takes [false, false, false, false, true] 1 (by kernel_rfl) (by kernel_rfl) (by decide) (by kernel_rfl) hS (fun K hK => ?_)
          simp only [Mix.pick]
          repeat (go_big_quiet_step (fail))
          refine wpQuiet_nil (hK _ ?_)
          clear hK K
          refine MixH.takes [false, false, false, false, false, true] 0 (by kernel_rfl) (by kernel_rfl) (by decide) (by kernel_rfl) hS (fun K hK => ?_)
          simp only [Mix.pick]
          repeat (go_big_quiet_step (fail))
          refine wpQuiet_nil (hK _ ?_)
          clear hK K
          refine MixH.done (by kernel_rfl) ?_
          have HEND : Hid (EX w B rc (B + 4) 0 mz R wF) := hS
          clear hS
          go_wp2_with fail
          refine bodyPost_ret (results_want rfl _ _ (B + 2) _ (B + 3) _ rfl rfl HF.out.1 HF.out.2) rfl ?_
          exact ⟨rc, R, mz, 5, 151, rfl, HRES.out.1, rfl, HEND.out.2.2.2, HEND.out.2.2.1, fun q hq => (HRB.out q hq).imp id (fun g => by have := HOX.out; omega)⟩
        · have HL : Hid (rcd.c = rc.c ∧ (∀ e ∈ L, e ∈ R) ∧ (((R.length : Int) < rc.c.mx ∧ L = R) ∨ (¬ (R.length : Int) < rc.c.mx ∧ ∃ j, OldI R R.length (some j) ∧ L = R.take j ++ R.drop (j + 1)))) := ⟨g1, g3, g4⟩
          have hLn : L.length ≤ 1024 := by
            have := HN.out
            rcases g4 with ⟨_, rfl⟩ | ⟨_, j, _, rfl⟩
            · omega
            · rw [List.length_append, List.length_take, List.length_drop]; omega
          obtain ⟨Z, hZ⟩ : ∃ Z, Z = w4.alloc (.cells (rcC rcz) 87) := ⟨_, rfl⟩
          obtain ⟨D, hD⟩ : ∃ D, D = w4.heap.size := ⟨_, rfl⟩
          have bZ : Below w4.heap.size w4 Z := by rw [hZ]; exact (Below.refl _ _).alloc (Nat.le_refl _) _
          have sZ : Z.heap.size = D + 1 := by rw [hZ, World.size_alloc, hD]
          have HZD : Hid (RchAt Z D rcz ∧ WS w B rc k Z ∧ B + 5 ≤ D ∧ RSt rcd L Z ∧ (∀ q, RB rcd L q → q < D) ∧ Z.heap.size = D + 1 ∧ L.length ≤ 1024) := ⟨by rw [hZ, hD]; exact rch_new w4 rcz, H4.out.below bZ, by rw [hD]; exact H4.out.sz, g2.below bZ, by rw [hD]; exact g2.lt, sZ, hLn⟩
          have HZE : Hid (w4.heap.size = D ∧ w4.alloc (.cells (rcC rcz) 87) = Z) := ⟨hD.symm, hZ.symm⟩
          clear hZ hD bZ H4 g1 g2 g3 g4 sZ hLn
          go_wp2_with (first | (refine wpList_alloc_rch rfl rfl ?_; rw [HZE.out.1, HZE.out.2]; simp only [Act.put, List.setIfInBounds_toArray, List.set_cons_succ, List.set_cons_zero]) | (refine wpList_store_rch (.tmp 15) (.tmp 39) rfl rfl D rcz rcd rfl rfl HZD.out.1 rfl ?_))
          intro w5 h5 k5
          have H5 : Hid (RchAt w5 D rcd ∧ WS w B rc k w5 ∧ B + 5 ≤ D ∧ RSt rcd L w5 ∧ D + 1 ≤ w5.heap.size ∧ L.length ≤ 1024) := ⟨h5, HZD.out.2.1.ch k5 (fun q e => by have e' : q = D := e; have := HZD.out.2.2.1; omega) HOX.out, HZD.out.2.2.1, HZD.out.2.2.2.1.ch k5 (fun q hq e => by have e' : q = D := e; have := HZD.out.2.2.2.2.1 q hq; omega), by have := k5.size; have := HZD.out.2.2.2.2.2.1; omega, HZD.out.2.2.2.2.2.2⟩
          clear h5 k5 HZD HZE
          have c5 : w5.cell? ⟨D, 5, none⟩ = some (.slice rcd.la rcd.n rcd.lc) := H5.out.1.cell 5
          obtain ⟨G, hG⟩ : ∃ G, G = w5.heap.size := ⟨_, rfl⟩
          obtain ⟨V, hV⟩ : ∃ V, V = w5.alloc (.cells #[.int .i64 item] 3) := ⟨_, rfl⟩
          have bV : Below w5.heap.size w5 V := by rw [hV]; exact (Below.refl _ _).alloc (Nat.le_refl _) _
          obtain ⟨ne, hne⟩ : ∃ ne : RE, ne = ⟨⟨k, mz, 1, 0, 1, [item]⟩, some ⟨G, 0, none⟩, 1⟩ := ⟨_, rfl⟩
          have sV : V.heap.size = G + 1 := by rw [hV, World.size_alloc, hG]
          have HV : Hid (RchAt V D rcd ∧ WS w B rc k V ∧ B + 5 ≤ D ∧ D + 1 ≤ G ∧ V.heap.size = G + 1) := ⟨H5.out.1.below bV, H5.out.2.1.below bV, H5.out.2.2.1, by rw [hG]; exact H5.out.2.2.2.2.1, sV⟩
          have HVE : Hid (w5.heap.size = G ∧ w5.alloc (.cells #[.int .i64 item] 3) = V ∧ ne = ⟨⟨k, mz, 1, 0, 1, [item]⟩, some ⟨G, 0, none⟩, 1⟩) := ⟨hG.symm, hV.symm, hne⟩
          have QW : Hid _ := rwith_rs (H5.out.2.2.2.1.below bV) ne (by have := H5.out.2.2.2.1.len; have := H5.out.2.2.2.2.2; omega) (fun e he => HN.out.2.2.2.2.1 e (HL.out.2.1 e he)) (by rw [hne]; exact HN.out.2.2.2.1) (by rw [hne, hV, hG]; exact seg_one w5 item) (fun q off hq => by rw [hne] at hq; cases hq; rw [sV]; omega)
          have HIP : Hid (IprAt w5 (B + 1) k.V k.x) := H5.out.2.1.ip
          have HLL : Hid (∀ r ∈ L, ∀ q off, r.la = some ⟨q, off, none⟩ → RB rc R q) := fun r hr q off hq => .inr ⟨r, HL.out.2.1 r hr, off, hq⟩
          clear hG hV bV hne sV H5
          go_wp2_with (first | (refine wpList_load_ipr (.tmp 6) rfl (B + 1) k.V k.x rfl HIP.out rfl ?_) | (refine wpList_build_nbW (.tmp 47) (.tmp 48) rfl k rfl rfl rfl ?_) | (refine wpList_bs1i (.tmp 50) rfl item rfl rfl ?_; rw [HVE.out.1, HVE.out.2.1]; simp only [Act.put, List.setIfInBounds_toArray, List.set_cons_succ, List.set_cons_zero]) | (refine wpList_build_re (.tmp 49) (.tmp 51) rfl ne (by rw [HVE.out.2.2]; rfl) (by rw [HVE.out.2.2]; rfl) rfl ?_))
          refine Calls.mono QW.out ?_
          rintro r w6 ⟨va, nl, vc, p, rfl, p1, p2, p3, b6⟩
          have H6 : Hid (RchAt w6 D rcd ∧ WS w B rc k w6 ∧ RSt ⟨rcd.c, va, nl, vc⟩ (L.take p ++ ne :: L.drop p) w6 ∧ AtPl L ne.n.k p ∧ ∀ q off, va = some ⟨q, off, none⟩ → G < q) := ⟨HV.out.1.below b6, HV.out.2.1.below b6, p2, p1, fun q off hq => by have := p3 q off hq; have := HV.out.2.2.2.2; omega⟩
          have HDG : Hid (B + 5 ≤ D ∧ D + 1 ≤ G) := ⟨HV.out.2.2.1, HV.out.2.2.2.1⟩
          clear QW HV p1 p2 p3 b6 HIP
          have c6 : w6.cell? ⟨D, 5, none⟩ = some (.slice rcd.la rcd.n rcd.lc) := H6.out.1.cell 5
          have f6 := H6.out.1.fz 5
          obtain ⟨X, hX⟩ : ∃ X, X = w6.setCell ⟨D, 5, none⟩ (.slice va nl vc) := ⟨_, rfl⟩
          have kX : Ch (fun q => q = D) w6 X := by rw [hX]; exact (Ch.refl (fun q => q = D) w6).set _ _ rfl
          obtain ⟨rn, hrn⟩ : ∃ rn : RC, rn = ⟨rcd.c, va, nl, vc⟩ := ⟨_, rfl⟩
          obtain ⟨RR, hRR⟩ : ∃ RR, RR = L.take p ++ ne :: L.drop p := ⟨_, rfl⟩
          have HRB : Hid (∀ q, RB rn RR q → RB rc R q ∨ B + 5 ≤ q) := by
            have hdg := HDG.out
            rintro q (⟨off, hq⟩ | ⟨y, hy, off, hq⟩)
            · rw [hrn] at hq
              have := H6.out.2.2.2.2 q off hq
              exact .inr (by omega)
            · rw [hRR] at hy
              rcases List.mem_append.1 hy with hy | hy
              · exact .inl (HLL.out y (List.mem_of_mem_take hy) q off hq)
              · rcases List.mem_cons.1 hy with hy | hy
                · rw [hy, HVE.out.2.2] at hq
                  cases hq
                  exact .inr (by omega)
                · exact .inl (HLL.out y (List.mem_of_mem_drop hy) q off hq)
          have HND : Hid (∀ q, RB rn RR q → q ≠ D) := by
            have hdg := HDG.out
            rintro q (⟨off, hq⟩ | ⟨y, hy, off, hq⟩)
            · rw [hrn] at hq
              have := H6.out.2.2.2.2 q off hq
              omega
            · have hold : ∀ y ∈ L, y.la = some ⟨q, off, none⟩ → q ≠ D := fun y hy hq => by
                have := HLT.out q (HLL.out y hy q off hq)
                omega
              rw [hRR] at hy
              rcases List.mem_append.1 hy with hy | hy
              · exact hold y (List.mem_of_mem_take hy) hq
              · rcases List.mem_cons.1 hy with hy | hy
                · rw [hy, HVE.out.2.2] at hq
                  cases hq
                  omega
                · exact hold y (List.mem_of_mem_drop hy) hq
          have HXW : Hid (WS w B rc k X) := H6.out.2.1.ch kX (fun q e => by have e' : q = D := e; have := HDG.out; omega) HOX.out
          have HX : Hid (EX w D rn (B + 4) 0 mz RR X ∧ RchAt X (B + 2) rcz ∧ MacAt X (B + 3) mz) := ⟨⟨by rw [hX, hrn]; exact H6.out.1.setl va nl vc, MacAt.all HXW.out.no, HXW.out.bel, by have h9 := H6.out.2.2.1; rw [← hrn, ← hRR] at h9; exact h9.ch kX (fun q hq e => HND.out q hq e)⟩, HXW.out.rc, HXW.out.rm⟩
          have HXE : Hid (w6.setCell ⟨D, 5, none⟩ (.slice va nl vc) = X) := hX.symm
          have HRES : Hid (RWantR rc.c R k item RR mz 3 0 ∧ rn.c = rc.c) := by
            refine ⟨.inr ⟨HKB.out, .inl ⟨HNO.out, ne, by rw [HVE.out.2.2], ?_, rfl, rfl⟩⟩, by rw [hrn]; exact HL.out.1⟩
            rcases HL.out.2.2 with ⟨l1, l2⟩ | ⟨l1, j, l2, l3⟩
            · exact .inl ⟨l1, rfl, p, by rw [← l2]; exact H6.out.2.2.2.1, by rw [hRR, l2]⟩
            · exact .inr (.inr ⟨by omega, j, l2, rfl, p, by rw [← l3]; exact H6.out.2.2.2.1, by rw [hRR, l3]⟩)
          have HD : Hid (D ≠ B + 2 ∧ D ≠ B + 3 ∧ B + 4 ≠ B + 2 ∧ B + 4 ≠ B + 3) := by have := HDG.out; exact ⟨by omega, by omega, by omega, by omega⟩
          clear hX kX hrn hRR HND HXW HLL
          go_upto_region 11 with fail
          rw [HXE.out]
          clear HXE c5 c6 f6 H6 HVE HL
          refine MixH.start (fun A => EX w D rn (B + 4) 0 mz RR A) (by kernel_rfl) ?_
          obtain ⟨wA, hwA⟩ : ∃ wA, wA = X.drew := ⟨_, rfl⟩
          have bdr : Below X.heap.size X wA := by rw [hwA]; exact (Below.refl _ _).drew
          have HA : Hid (RchAt wA (B + 2) rcz ∧ MacAt wA (B + 3) mz) := ⟨HX.out.2.1.below bdr, HX.out.2.2.below bdr⟩
          have hS : EX w D rn (B + 4) 0 mz RR wA := HX.out.1.drew bdr
          rw [← hwA]
          clear hwA bdr HX
          refine MixH.take 5 0 _ (.agg (rcC rn)) rfl (by kernel_rfl) (by kernel_rfl) (by kernel_rfl) (by kernel_rfl) (yields_rch (.tmp 15) rfl D 0 rn rfl rfl (fun A hA => RchAt.all hA.1)) hS (fun a' ha => ?_)
          simp only [Act.put, List.setIfInBounds_toArray, List.set_cons_succ, List.set_cons_zero] at ha
          subst ha
          refine MixH.take 4 1 _ (.agg (macC mz)) rfl (by kernel_rfl) (by kernel_rfl) (by kernel_rfl) (by kernel_rfl) (yields_mac (.tmp 12) rfl (B + 4) 0 mz rfl rfl (fun A hA => hA.2.1)) hS (fun a' ha => ?_)
          simp only [Act.put, List.setIfInBounds_toArray, List.set_cons_succ, List.set_cons_zero] at ha
          subst ha
          refine MixH.one [false, false, true] 3 2 _ rfl rfl (by kernel_rfl) (by kernel_rfl) (fun K hK => ?_)
          simp only [Mix.pick]
          refine wpList_store_rch (.tmp 8) (.tmp 55) rfl rfl (B + 2) rcz rn rfl rfl HA.out.1 rfl ?_
          intro wE hE kE
          have HE : Hid (RchAt wE (B + 2) rn ∧ MacAt wE (B + 3) mz) := ⟨hE, HA.out.2.ch kE (by omega)⟩
          replace hS : EX w D rn (B + 4) 0 mz RR wE := hS.ch kE HD.out.1 HD.out.2.2.1 (by have := HOX.out; omega) (fun q hq e => rb_ne HLT.out (HRB.out q hq) (by omega) (by omega) e)
          clear hE kE HA
          go_wp2
          refine ⟨rfl, hK _ _ hS ?_⟩
          clear hK K
          refine MixH.one [false, false, false, true] 2 3 _ rfl rfl (by kernel_rfl) (by kernel_rfl) (fun K hK => ?_)
          simp only [Mix.pick]
          refine wpList_store_mac (.tmp 9) (.tmp 56) rfl rfl (B + 3) mz mz rfl rfl HE.out.2 rfl ?_
          intro wF hF kF
          have HF : Hid (RchAt wF (B + 2) rn ∧ MacAt wF (B + 3) mz) := ⟨HE.out.1.ch kF (by omega), hF⟩
          replace hS : EX w D rn (B + 4) 0 mz RR wF := hS.ch kF HD.out.2.1 HD.out.2.2.2 (by have := HOX.out; omega) (fun q hq e => rb_ne HLT.out (HRB.out q hq) (by omega) (by omega) e)
          clear hF kF HE
          go_wp2
          refine ⟨rfl, hK _ _ hS ?_⟩
          clear hK K
          refine MixH.takes [false, false, false, false, true] 1 (by kernel_rfl) (by kernel_rfl) (by decide) (by kernel_rfl) hS (fun K hK => ?_)
          simp only [Mix.pick]
          repeat (go_big_quiet_step (fail))
          refine wpQuiet_nil (hK _ ?_)
          clear hK K
          refine MixH.takes [false, false, false, false, false, true] 0 (by kernel_rfl) (by kernel_rfl) (by decide) (by kernel_rfl) hS (fun K hK => ?_)
          simp only [Mix.pick]
          repeat (go_big_quiet_step (fail))
          refine wpQuiet_nil (hK _ ?_)
          clear hK K
          refine MixH.done (by kernel_rfl) ?_
          have HEND : Hid (EX w D rn (B + 4) 0 mz RR wF) := hS
          clear hS
          go_wp2_with fail
          refine bodyPost_ret (results_want rfl _ _ (B + 2) _ (B + 3) _ rfl rfl HF.out.1 HF.out.2) rfl ?_
          exact ⟨rn, RR, mz, 3, 0, rfl, HRES.out.1, HRES.out.2, HEND.out.2.2.2, HEND.out.2.2.1, fun q hq => (HRB.out q hq).imp id (fun g => by have := HOX.out; omega)⟩
      · obtain rfl : fd = (i : Int) := by rw [HFD.out]; simpa using g3
        have hin : i < n := by have := (List.getElem?_eq_some_iff.1 g1).1; have := HN.out.1; omega
        have k0 : (0 : Int) ≤ (i : Int) := by omega
        have k1 : (i : Int) < (n : Int) := by omega
        have k2 : ((i : Int)).toNat = i := by omega
        have k3 : ¬ ((i : Int) < 0) := by omega
        have HEM : Hid (R[i]? = some e ∧ eqP e.n.k k = true ∧ e ∈ R) := ⟨g1, g2, List.mem_of_getElem? g1⟩
        obtain ⟨g, off, hla, hx1, hrg⟩ := (HRS.out w3 H3.out.bel).er.at i e g1
        have csl : w3.cell? ⟨B, 5, none⟩ = some (.slice (some ⟨g, off, none⟩) n rc.lc) := by rw [H3.out.c.cell 5, ← hla, HN.out.2.2.1]; rfl
        obtain ⟨Z, hZ⟩ : ∃ Z, Z = w3.alloc (.cells (reC rez) 163) := ⟨_, rfl⟩
        obtain ⟨D, hD⟩ : ∃ D, D = w3.heap.size := ⟨_, rfl⟩
        have bZ : Below w3.heap.size w3 Z := by rw [hZ]; exact (Below.refl _ _).alloc (Nat.le_refl _) _
        have HZD : Hid (RenAt Z D rez ∧ WS w B rc k Z ∧ B + 5 ≤ D ∧ Z.heap.size = D + 1) := ⟨by rw [hZ, hD]; exact ren_new w3 rez, H3.out.below bZ, by rw [hD]; exact H3.out.sz, by rw [hZ, World.size_alloc, hD]⟩
        have HZE : Hid (w3.heap.size = D ∧ w3.alloc (.cells (reC rez) 163) = Z) := ⟨hD.symm, hZ.symm⟩
        have HRG : Hid (w3.rangeAt g (off + i * 29) (reC e).toList) := hrg
        have HLA : Hid (rc.la = some ⟨g, off, none⟩) := hla
        clear hZ hD bZ g1 g2 g3 hla hx1 hrg HFD
        go_wp2_with (first | (refine wpList_mid_ren (.tmp 60) rfl g (off + i * 29) e rfl HRG.out rfl ?_) | (refine wpList_alloc_ren rfl rfl ?_; rw [HZE.out.1, HZE.out.2]; simp only [Act.put, List.setIfInBounds_toArray, List.set_cons_succ, List.set_cons_zero]) | (refine wpList_store_ren (.tmp 17) (.tmp 61) rfl rfl D rez e rfl rfl HZD.out.1 rfl ?_))
        intro w5 h5 k5
        have H5 : Hid (RenAt w5 D e ∧ WS w B rc k w5 ∧ B + 5 ≤ D ∧ D + 1 ≤ w5.heap.size) := ⟨h5, HZD.out.2.1.ch k5 (fun q e => by have e' : q = D := e; have := HZD.out.2.2.1; omega) HOX.out, HZD.out.2.2.1, by have := k5.size; have := HZD.out.2.2.2; omega⟩
        clear h5 k5 HZD HZE csl HRG H3
        obtain ⟨st, hst⟩ : ∃ st, st = e.n.st := ⟨_, rfl⟩
        have HST : Hid (st = e.n.st) := hst
        have c24 : w5.cell? ⟨D, 24, none⟩ = some (.int .i64 st) := by rw [hst]; exact H5.out.1.cell 24
        obtain ⟨mm, hmm⟩ : ∃ mm, mm = e.n.m := ⟨_, rfl⟩
        have HMM : Hid (mm = e.n.m) := hmm
        clear hst hmm
        have HD : Hid (B ≠ B + 2 ∧ B ≠ B + 3 ∧ D ≠ B + 2 ∧ D ≠ B + 3) := by have := H5.out.2.2.1; exact ⟨by omega, by omega, by omega, by omega⟩
        by_cases h24 : st = 2 ∨ st = 4
        · have HX : Hid (EX w B rc D 18 mm R w5 ∧ RchAt w5 (B + 2) rcz ∧ MacAt w5 (B + 3) mz) := ⟨⟨H5.out.2.1.c, by rw [HMM.out]; exact H5.out.1.mac, H5.out.2.1.bel, HRS.out w5 H5.out.2.1.bel⟩, H5.out.2.1.rc, H5.out.2.1.rm⟩
          have HRB : Hid (∀ q, RB rc R q → RB rc R q ∨ B + 5 ≤ q) := fun q hq => .inl hq
          have HRES : Hid (RWantR rc.c R k item R mm 1 0 ∧ rc.c = rc.c) := ⟨.inr ⟨HKB.out, .inr ⟨i, e, HEM.out.1, HEM.out.2.1, .inl ⟨by rw [← HST.out]; exact h24, rfl, HMM.out, rfl, rfl⟩⟩⟩, rfl⟩
          go_upto_if 65 with fail
          go_cut [65] (fun v wx => v = .bool true ∧ w5 = wx)
          case first =>
            rcases h24 with h2 | h4
            · have q2 : (st == 2) = true := by simpa using h2
              clear h2
              go_wp2_with fail
              go_meet
              exact ⟨rfl, rfl⟩
            · have q2 : (st == 2) = false := by rw [h4]; rfl
              have q4 : (st == 4) = true := by simpa using h4
              clear h4
              go_wp2_with fail
              go_meet
              exact ⟨rfl, rfl⟩
          case rest =>
            obtain ⟨rfl, rfl⟩ := hcut
            clear h24 H5 c24
            go_upto_region 16 with fail
            refine MixH.start (fun A => EX w B rc D 18 mm R A) (by kernel_rfl) ?_
            obtain ⟨wA, hwA⟩ : ∃ wA, wA = w5.drew := ⟨_, rfl⟩
            have bdr : Below w5.heap.size w5 wA := by rw [hwA]; exact (Below.refl _ _).drew
            have HA : Hid (RchAt wA (B + 2) rcz ∧ MacAt wA (B + 3) mz) := ⟨HX.out.2.1.below bdr, HX.out.2.2.below bdr⟩
            have hS : EX w B rc D 18 mm R wA := HX.out.1.drew bdr
            rw [← hwA]
            clear hwA bdr HX
            refine MixH.takes [false, true] 7 (by kernel_rfl) (by kernel_rfl) (by decide) (by kernel_rfl) hS (fun K hK => ?_)
            simp only [Mix.pick]
            repeat (go_big_quiet_step (fail))
            refine wpQuiet_nil (hK _ ?_)
            clear hK K
            refine MixH.takes [false, false, true] 6 (by kernel_rfl) (by kernel_rfl) (by decide) (by kernel_rfl) hS (fun K hK => ?_)
            simp only [Mix.pick]
            repeat (go_big_quiet_step (fail))
            refine wpQuiet_nil (hK _ ?_)
            clear hK K
            refine MixH.take 5 0 _ (.agg (rcC rc)) rfl (by kernel_rfl) (by kernel_rfl) (by kernel_rfl) (by kernel_rfl) (yields_rch (.tmp 4) rfl B 0 rc rfl rfl (fun A hA => RchAt.all hA.1)) hS (fun a' ha => ?_)
            simp only [Act.put, List.setIfInBounds_toArray, List.set_cons_succ, List.set_cons_zero] at ha
            subst ha
            refine MixH.take 4 3 _ (.agg (macC mm)) rfl (by kernel_rfl) (by kernel_rfl) (by kernel_rfl) (by kernel_rfl) (yields_mac (.tmp 70) rfl D 18 mm rfl rfl (fun A hA => hA.2.1)) hS (fun a' ha => ?_)
            simp only [Act.put, List.setIfInBounds_toArray, List.set_cons_succ, List.set_cons_zero] at ha
            subst ha
            refine MixH.one [false, false, false, false, true] 3 4 _ rfl rfl (by kernel_rfl) (by kernel_rfl) (fun K hK => ?_)
            simp only [Mix.pick]
            refine wpList_store_rch (.tmp 8) (.tmp 68) rfl rfl (B + 2) rcz rc rfl rfl HA.out.1 rfl ?_
            intro wE hE kE
            have HE : Hid (RchAt wE (B + 2) rc ∧ MacAt wE (B + 3) mz) := ⟨hE, HA.out.2.ch kE (by omega)⟩
            replace hS : EX w B rc D 18 mm R wE := hS.ch kE HD.out.1 HD.out.2.2.1 (by have := HOX.out; omega) (fun q hq e => rb_ne HLT.out (HRB.out q hq) (by omega) (by omega) e)
            clear hE kE HA
            go_wp2
            refine ⟨rfl, hK _ _ hS ?_⟩
            clear hK K
            refine MixH.one [false, false, false, false, false, true] 2 5 _ rfl rfl (by kernel_rfl) (by kernel_rfl) (fun K hK => ?_)
            simp only [Mix.pick]
            refine wpList_store_mac (.tmp 9) (.tmp 71) rfl rfl (B + 3) mz mm rfl rfl HE.out.2 rfl ?_
            intro wF hF kF
            have HF : Hid (RchAt wF (B + 2) rc ∧ MacAt wF (B + 3) mm) := ⟨HE.out.1.ch kF (by omega), hF⟩
            replace hS : EX w B rc D 18 mm R wF := hS.ch kF HD.out.2.1 HD.out.2.2.2 (by have := HOX.out; omega) (fun q hq e => rb_ne HLT.out (HRB.out q hq) (by omega) (by omega) e)
            clear hF kF HE
            go_wp2
            refine ⟨rfl, hK _ _ hS ?_⟩
            clear hK K
            refine MixH.takes [false, false, false, false, false, false, true] 1 (by kernel_rfl) (by kernel_rfl) (by decide) (by kernel_rfl) hS (fun K hK => ?_)
            simp only [Mix.pick]
            repeat (go_big_quiet_step (fail))
            refine wpQuiet_nil (hK _ ?_)
            clear hK K
            refine MixH.takes [false, false, false, false, false, false, false, true] 0 (by kernel_rfl) (by kernel_rfl) (by decide) (by kernel_rfl) hS (fun K hK => ?_)
            simp only [Mix.pick]
            repeat (go_big_quiet_step (fail))
            refine wpQuiet_nil (hK _ ?_)
            clear hK K
            refine MixH.done (by kernel_rfl) ?_
            have HEND : Hid (EX w B rc D 18 mm R wF) := hS
            clear hS
            go_wp2_with fail
            refine bodyPost_ret (results_want rfl _ _ (B + 2) _ (B + 3) _ rfl rfl HF.out.1 HF.out.2) rfl ?_
            exact ⟨rc, R, mm, 1, 0, rfl, HRES.out.1, rfl, HEND.out.2.2.2, HEND.out.2.2.1, fun q hq => (HRB.out q hq).imp id (fun g => by have := HOX.out; omega)⟩
        · have q2 : (st == 2) = false := by simpa using fun h => h24 (.inl h)
          have q4 : (st == 4) = false := by simpa using fun h => h24 (.inr h)
          have HNS : Hid (st ≠ 2 ∧ st ≠ 4) := ⟨fun h => h24 (.inl h), fun h => h24 (.inr h)⟩
          clear h24
          by_cases h3 : st = 3
          · have q3 : (st == 3) = true := by simpa using h3
            have HS3 : Hid (e.n.st = 3) := by have := HST.out; show _ = _; omega
            clear h3
            obtain ⟨ne, hne⟩ : ∃ ne : RE, ne = ⟨{ e.n with st := 4, ag := 0, tr := 1 }, e.la, e.lc⟩ := ⟨_, rfl⟩
            obtain ⟨X, hX⟩ : ∃ X, X = ((w5.setCell ⟨D, 24, none⟩ (.int .i64 4)).setCell ⟨D, 25, none⟩ (.int .i64 0)).setCell ⟨D, 26, none⟩ (.int .i64 1) := ⟨_, rfl⟩
            have kX : Ch (fun q => q = D) w5 X := by rw [hX]; exact (((Ch.refl (fun q => q = D) w5).set _ _ rfl).set _ _ rfl).set _ _ rfl
            have rX : RenAt X D ne := by
              rw [hX, hne]
              exact RenAt.set (e := ⟨{ e.n with st := 4, ag := 0 }, e.la, e.lc⟩) (RenAt.set (e := ⟨{ e.n with st := 4 }, e.la, e.lc⟩) (H5.out.1.set 24 _ rfl) 25 _ rfl) 26 _ rfl
            have HXA : Hid (RenAt X D ne ∧ WS w B rc k X ∧ B + 5 ≤ D ∧ D + 1 ≤ X.heap.size) := ⟨rX, H5.out.2.1.ch kX (fun q e => by have e' : q = D := e; have := H5.out.2.2.1; omega) HOX.out, H5.out.2.2.1, Nat.le_trans H5.out.2.2.2 kX.size⟩
            have HXE : Hid (((w5.setCell ⟨D, 24, none⟩ (.int .i64 4)).setCell ⟨D, 25, none⟩ (.int .i64 0)).setCell ⟨D, 26, none⟩ (.int .i64 1) = X) := hX.symm
            have d24 := H5.out.1.fz 24
            have d25 := H5.out.1.fz 25
            have d26 := H5.out.1.fz 26
            have c25 : w5.cell? ⟨D, 25, none⟩ = some (.int .i64 e.n.ag) := H5.out.1.cell 25
            have c26 : w5.cell? ⟨D, 26, none⟩ = some (.int .i64 e.n.tr) := H5.out.1.cell 26
            have HNE : Hid (ne = ⟨{ e.n with st := 4, ag := 0, tr := 1 }, e.la, e.lc⟩) := hne
            have QP : Hid _ := rput_rs (HRS.out X HXA.out.2.1.bel) i ne (by have := HN.out; omega) (by have := HN.out.2.2.1; omega) (by rw [hne]; exact (HRS.out X HXA.out.2.1.bel).its e HEM.out.2.2) (by rw [hne]; exact (HRS.out X HXA.out.2.1.bel).itl e HEM.out.2.2)
            have cX : X.cell? ⟨B, 5, none⟩ = some (.slice rc.la rc.n rc.lc) := HXA.out.2.1.c.cell 5
            clear hX kX rX hne H5
            go_upto_region 21 with fail
            rw [HXE.out]
            clear HXE c24 c25 c26 d24 d25 d26
            go_wp2_with (first | (refine wpList_load_ren (.tmp 17) rfl D ne rfl HXA.out.1 rfl ?_))
            refine Calls.mono QP.out ?_
            rintro r w6 ⟨va, nl, vc, rfl, p2, p3, b6⟩
            obtain ⟨rn, hrn⟩ : ∃ rn : RC, rn = ⟨rc.c, va, nl, vc⟩ := ⟨_, rfl⟩
            obtain ⟨RR, hRR⟩ : ∃ RR, RR = R.set i ne := ⟨_, rfl⟩
            rw [← hrn, ← hRR] at p2
            have HRB : Hid (∀ q, RB rn RR q → RB rc R q ∨ B + 5 ≤ q) := by
              rintro q (⟨off, hq⟩ | ⟨y, hy, off, hq⟩)
              · rw [hrn] at hq
                have := p3 q off hq
                have := HXA.out.2.1.sz
                exact .inr (by omega)
              · rw [hRR] at hy
                rcases List.mem_or_eq_of_mem_set hy with hy | hy
                · exact .inl (.inr ⟨y, hy, off, hq⟩)
                · rw [hy, HNE.out] at hq
                  exact .inl (.inr ⟨e, HEM.out.2.2, off, hq⟩)
            have H6 : Hid (RenAt w6 D ne ∧ WS w B rc k w6 ∧ RSt rn RR w6 ∧ B + 5 ≤ D) := ⟨HXA.out.1.below b6, HXA.out.2.1.below b6, p2, HXA.out.2.2.1⟩
            have c6 : w6.cell? ⟨B, 5, none⟩ = some (.slice rc.la rc.n rc.lc) := H6.out.2.1.c.cell 5
            have f6 := H6.out.2.1.c.fz 5
            obtain ⟨X2, hX2⟩ : ∃ X2, X2 = w6.setCell ⟨B, 5, none⟩ (.slice va nl vc) := ⟨_, rfl⟩
            have kX2 : Ch (fun q => q = B) w6 X2 := by rw [hX2]; exact (Ch.refl (fun q => q = B) w6).set _ _ rfl
            have HW2 : Hid (WS w B rn k X2) := by have h9 := H6.out.2.1.setl HOX.out va nl vc; rw [← hX2, ← hrn] at h9; exact h9
            have HX : Hid (EX w B rn D 18 mm RR X2 ∧ RchAt X2 (B + 2) rcz ∧ MacAt X2 (B + 3) mz) := ⟨⟨HW2.out.c, by have h9 := (H6.out.1.ch kX2 (by have := H6.out.2.2.2; omega)).mac; rw [HNE.out] at h9; rw [HMM.out]; exact h9, HW2.out.bel, H6.out.2.2.1.ch kX2 (fun q hq e => rb_ne HLT.out (HRB.out q hq) (Nat.le_refl _) (by omega) e)⟩, HW2.out.rc, HW2.out.rm⟩
            have HXE : Hid (w6.setCell ⟨B, 5, none⟩ (.slice va nl vc) = X2) := hX2.symm
            have HRES : Hid (RWantR rc.c R k item RR mm 2 0 ∧ rn.c = rc.c) := ⟨.inr ⟨HKB.out, .inr ⟨i, e, HEM.out.1, HEM.out.2.1, .inr (.inl ⟨HS3.out, by rw [hRR, HNE.out], HMM.out, rfl, rfl⟩)⟩⟩, by rw [hrn]⟩
            clear hX2 kX2 hrn hRR p2 p3 b6 QP HXA HW2 H6
            go_upto_region 22 with fail
            rw [HXE.out]
            clear HXE c6 f6 cX
            refine MixH.start (fun A => EX w B rn D 18 mm RR A) (by kernel_rfl) ?_
            obtain ⟨wA, hwA⟩ : ∃ wA, wA = X2.drew := ⟨_, rfl⟩
            have bdr : Below X2.heap.size X2 wA := by rw [hwA]; exact (Below.refl _ _).drew
            have HA : Hid (RchAt wA (B + 2) rcz ∧ MacAt wA (B + 3) mz) := ⟨HX.out.2.1.below bdr, HX.out.2.2.below bdr⟩
            have hS : EX w B rn D 18 mm RR wA := HX.out.1.drew bdr
            rw [← hwA]
            clear hwA bdr HX
            refine MixH.takes [false, true] 7 (by kernel_rfl) (by kernel_rfl) (by decide) (by kernel_rfl) hS (fun K hK => ?_)
            simp only [Mix.pick]
            repeat (go_big_quiet_step (fail))
            refine wpQuiet_nil (hK _ ?_)
            clear hK K
            refine MixH.takes [false, false, true] 6 (by kernel_rfl) (by kernel_rfl) (by decide) (by kernel_rfl) hS (fun K hK => ?_)
            simp only [Mix.pick]
            repeat (go_big_quiet_step (fail))
            refine wpQuiet_nil (hK _ ?_)
            clear hK K
            refine MixH.take 5 0 _ (.agg (rcC rn)) rfl (by kernel_rfl) (by kernel_rfl) (by kernel_rfl) (by kernel_rfl) (yields_rch (.tmp 4) rfl B 0 rn rfl rfl (fun A hA => RchAt.all hA.1)) hS (fun a' ha => ?_)
            simp only [Act.put, List.setIfInBounds_toArray, List.set_cons_succ, List.set_cons_zero] at ha
            subst ha
            refine MixH.take 4 3 _ (.agg (macC mm)) rfl (by kernel_rfl) (by kernel_rfl) (by kernel_rfl) (by kernel_rfl) (yields_mac (.tmp 88) rfl D 18 mm rfl rfl (fun A hA => hA.2.1)) hS (fun a' ha => ?_)
            simp only [Act.put, List.setIfInBounds_toArray, List.set_cons_succ, List.set_cons_zero] at ha
            subst ha
            refine MixH.one [false, false, false, false, true] 3 4 _ rfl rfl (by kernel_rfl) (by kernel_rfl) (fun K hK => ?_)
            simp only [Mix.pick]
            refine wpList_store_rch (.tmp 8) (.tmp 86) rfl rfl (B + 2) rcz rn rfl rfl HA.out.1 rfl ?_
            intro wE hE kE
            have HE : Hid (RchAt wE (B + 2) rn ∧ MacAt wE (B + 3) mz) := ⟨hE, HA.out.2.ch kE (by omega)⟩
            replace hS : EX w B rn D 18 mm RR wE := hS.ch kE HD.out.1 HD.out.2.2.1 (by have := HOX.out; omega) (fun q hq e => rb_ne HLT.out (HRB.out q hq) (by omega) (by omega) e)
            clear hE kE HA
            go_wp2
            refine ⟨rfl, hK _ _ hS ?_⟩
            clear hK K
            refine MixH.one [false, false, false, false, false, true] 2 5 _ rfl rfl (by kernel_rfl) (by kernel_rfl) (fun K hK => ?_)
            simp only [Mix.pick]
            refine wpList_store_mac (.tmp 9) (.tmp 89) rfl rfl (B + 3) mz mm rfl rfl HE.out.2 rfl ?_
            intro wF hF kF
            have HF : Hid (RchAt wF (B + 2) rn ∧ MacAt wF (B + 3) mm) := ⟨HE.out.1.ch kF (by omega), hF⟩
            replace hS : EX w B rn D 18 mm RR wF := hS.ch kF HD.out.2.1 HD.out.2.2.2 (by have := HOX.out; omega) (fun q hq e => rb_ne HLT.out (HRB.out q hq) (by omega) (by omega) e)
            clear hF kF HE
            go_wp2
            refine ⟨rfl, hK _ _ hS ?_⟩
            clear hK K
            refine MixH.takes [false, false, false, false, false, false, true] 1 (by kernel_rfl) (by kernel_rfl) (by decide) (by kernel_rfl) hS (fun K hK => ?_)
            simp only [Mix.pick]
            repeat (go_big_quiet_step (fail))
            refine wpQuiet_nil (hK _ ?_)
            clear hK K
            refine MixH.takes [false, false, false, false, false, false, false, true] 0 (by kernel_rfl) (by kernel_rfl) (by decide) (by kernel_rfl) hS (fun K hK => ?_)
            simp only [Mix.pick]
            repeat (go_big_quiet_step (fail))
            refine wpQuiet_nil (hK _ ?_)
            clear hK K
            refine MixH.done (by kernel_rfl) ?_
            have HEND : Hid (EX w B rn D 18 mm RR wF) := hS
            clear hS
            go_wp2_with fail
            refine bodyPost_ret (results_want rfl _ _ (B + 2) _ (B + 3) _ rfl rfl HF.out.1 HF.out.2) rfl ?_
            exact ⟨rn, RR, mm, 2, 0, rfl, HRES.out.1, HRES.out.2, HEND.out.2.2.2, HEND.out.2.2.1, fun q hq => (HRB.out q hq).imp id (fun g => by have := HOX.out; omega)⟩
          · have q3 : (st == 3) = false := by simpa using h3
            have HN3 : Hid (e.n.st ≠ 2 ∧ e.n.st ≠ 4 ∧ e.n.st ≠ 3) := by rw [← HST.out]; exact ⟨HNS.out.1, HNS.out.2, h3⟩
            clear h3
            obtain ⟨nl, hnl⟩ : ∃ nl, nl = e.n.ln.length := ⟨_, rfl⟩
            have HNL : Hid (nl = e.n.ln.length ∧ nl ≤ 64) := ⟨hnl, by rw [hnl]; exact HN.out.2.2.2.2.2 e HEM.out.2.2⟩
            have c28 : w5.cell? ⟨D, 28, none⟩ = some (.slice e.la nl e.lc) := by rw [hnl]; exact H5.out.1.cell 28
            have c1 : w5.cell? ⟨B, 1, none⟩ = some (.int .i64 rc.c.li) := H5.out.2.1.c.cell 1
            by_cases hfull : rc.c.li ≤ (nl : Int)
            · have HFU : Hid (rc.c.li ≤ (e.n.ln.length : Int)) := by show _ ≤ _; rw [← hnl]; exact hfull
              have qf : decide ((nl : Int) ≥ rc.c.li) = true := by simpa using hfull
              have H7 : Hid (WS w B rc k w5) := H5.out.2.1
              clear hfull hnl H5 HD
              go_upto_region 24 with fail
              clear c24 c28 c1
              have HX : Hid (EX w B rc (B + 4) 0 mz R w5 ∧ RchAt w5 (B + 2) rcz ∧ MacAt w5 (B + 3) mz) := ⟨⟨H7.out.c, MacAt.all H7.out.no, H7.out.bel, HRS.out w5 H7.out.bel⟩, H7.out.rc, H7.out.rm⟩
              have HD : Hid (B ≠ B + 2 ∧ B ≠ B + 3 ∧ B + 4 ≠ B + 2 ∧ B + 4 ≠ B + 3) := ⟨by omega, by omega, by omega, by omega⟩
              have HRB : Hid (∀ q, RB rc R q → RB rc R q ∨ B + 5 ≤ q) := fun q hq => .inl hq
              have HRES : Hid (RWantR rc.c R k item R mz 5 152 ∧ rc.c = rc.c) := ⟨.inr ⟨HKB.out, .inr ⟨i, e, HEM.out.1, HEM.out.2.1, .inr (.inr (.inl ⟨HN3.out.1, HN3.out.2.1, HN3.out.2.2, HFU.out, rfl, rfl, rfl, rfl⟩))⟩⟩, rfl⟩
              clear H7
              refine MixH.start (fun A => EX w B rc (B + 4) 0 mz R A) (by kernel_rfl) ?_
              obtain ⟨wA, hwA⟩ : ∃ wA, wA = w5.drew := ⟨_, rfl⟩
              have bdr : Below w5.heap.size w5 wA := by rw [hwA]; exact (Below.refl _ _).drew
              have HA : Hid (RchAt wA (B + 2) rcz ∧ MacAt wA (B + 3) mz) := ⟨HX.out.2.1.below bdr, HX.out.2.2.below bdr⟩
              have hS : EX w B rc (B + 4) 0 mz R wA := HX.out.1.drew bdr
              rw [← hwA]
              clear hwA bdr HX
              refine MixH.take 5 0 _ (.agg (rcC rc)) rfl (by kernel_rfl) (by kernel_rfl) (by kernel_rfl) (by kernel_rfl) (yields_rch (.tmp 4) rfl B 0 rc rfl rfl (fun A hA => RchAt.all hA.1)) hS (fun a' ha => ?_)
              simp only [Act.put, List.setIfInBounds_toArray, List.set_cons_succ, List.set_cons_zero] at ha
              subst ha
              refine MixH.take 4 1 _ (.agg (macC mz)) rfl (by kernel_rfl) (by kernel_rfl) (by kernel_rfl) (by kernel_rfl) (yields_mac (.tmp 12) rfl (B + 4) 0 mz rfl rfl (fun A hA => hA.2.1)) hS (fun a' ha => ?_)
              simp only [Act.put, List.setIfInBounds_toArray, List.set_cons_succ, List.set_cons_zero] at ha
              subst ha
              refine MixH.one [false, false, true] 3 2 _ rfl rfl (by kernel_rfl) (by kernel_rfl) (fun K hK => ?_)
              simp only [Mix.pick]
              refine wpList_store_rch (.tmp 8) (.tmp 97) rfl rfl (B + 2) rcz rc rfl rfl HA.out.1 rfl ?_
              intro wE hE kE
              have HE : Hid (RchAt wE (B + 2) rc ∧ MacAt wE (B + 3) mz) := ⟨hE, HA.out.2.ch kE (by omega)⟩
              replace hS : EX w B rc (B + 4) 0 mz R wE := hS.ch kE HD.out.1 HD.out.2.2.1 (by have := HOX.out; omega) (fun q hq e => rb_ne HLT.out (HRB.out q hq) (by omega) (by omega) e)
              clear hE kE HA
              go_wp2
              refine ⟨rfl, hK _ _ hS ?_⟩
              clear hK K
              refine MixH.one [false, false, false, true] 2 3 _ rfl rfl (by kernel_rfl) (by kernel_rfl) (fun K hK => ?_)
              simp only [Mix.pick]
              refine wpList_store_mac (.tmp 9) (.tmp 98) rfl rfl (B + 3) mz mz rfl rfl HE.out.2 rfl ?_
              intro wF hF kF
              have HF : Hid (RchAt wF (B + 2) rc ∧ MacAt wF (B + 3) mz) := ⟨HE.out.1.ch kF (by omega), hF⟩
              replace hS : EX w B rc (B + 4) 0 mz R wF := hS.ch kF HD.out.2.1 HD.out.2.2.2 (by have := HOX.out; omega) (fun q hq e => rb_ne HLT.out (HRB.out q hq) (by omega) (by omega) e)
              clear hF kF HE
              go_wp2
              refine ⟨rfl, hK _ _ hS ?_⟩
              clear hK K
              refine MixH.takes [false, false, false, false, true] 1 (by kernel_rfl) (by kernel_rfl) (by decide) (by kernel_rfl) hS (fun K hK => ?_)
              simp only [Mix.pick]
              repeat (go_big_quiet_step (fail))
              refine wpQuiet_nil (hK _ ?_)
              clear hK K
              refine MixH.takes [false, false, false, false, false, true] 0 (by kernel_rfl) (by kernel_rfl) (by decide) (by kernel_rfl) hS (fun K hK => ?_)
              simp only [Mix.pick]
              repeat (go_big_quiet_step (fail))
              refine wpQuiet_nil (hK _ ?_)
              clear hK K
              refine MixH.done (by kernel_rfl) ?_
              have HEND : Hid (EX w B rc (B + 4) 0 mz R wF) := hS
              clear hS
              go_wp2_with fail
              refine bodyPost_ret (results_want rfl _ _ (B + 2) _ (B + 3) _ rfl rfl HF.out.1 HF.out.2) rfl ?_
              exact ⟨rc, R, mz, 5, 152, rfl, HRES.out.1, rfl, HEND.out.2.2.2, HEND.out.2.2.1, fun q hq => (HRB.out q hq).imp id (fun g => by have := HOX.out; omega)⟩
            · have HFU : Hid (¬ rc.c.li ≤ (e.n.ln.length : Int)) := by show ¬ _; rw [← hnl]; exact hfull
              have qf : decide ((nl : Int) ≥ rc.c.li) = false := by simpa using hfull
              have HSG : Hid (Seg .i64 w5 e.la e.n.ln) := (HRS.out w5 H5.out.2.1.bel).its e HEM.out.2.2
              clear hfull hnl
              go_wp2_with (first | (refine wpList_appi rfl (.tmp 99) (.tmp 101) rfl w5.heap.size (.slice none 0 0) [] rfl (World.ownsRow_nil _ _ _ _) e.la nl e.lc e.n.ln rfl HNL.out.1.symm HSG.out (by simp) (by have := HNL.out.2; omega) (Nat.le_refl _) ?_))
              intro v6 w6 h6 g6 o6
              obtain ⟨v6a, v6c, hv6⟩ := IL.form h6
              obtain ⟨m6, hm6⟩ : ∃ m6, m6 = List.length e.n.ln := ⟨_, rfl⟩
              rw [← hm6] at hv6
              subst hv6
              have b6 : Below w5.heap.size w5 w6 := grown_below g6 (fun g hg => by cases hg) (Nat.le_refl _)
              have H6 : Hid (RenAt w6 D e ∧ WS w B rc k w6 ∧ B + 5 ≤ D ∧ D + 1 ≤ w5.heap.size ∧ IL w6 w5.heap.size (.slice v6a m6 v6c) e.n.ln ∧ w5.heap.size ≤ w6.heap.size) := ⟨H5.out.1.below b6, H5.out.2.1.below b6, H5.out.2.2.1, H5.out.2.2.2, h6, b6.size⟩
              clear h6 g6 o6 b6 HSG c28 c1 c24
              have HM6 : Hid (m6 = e.n.ln.length ∧ m6 ≤ 64) := ⟨hm6, by have := HNL.out; omega⟩
              clear hm6
              have bz : Below w6.heap.size w6 (w6.alloc (.cells #[.int .i64 item] 3)) := (Below.refl _ _).alloc (Nat.le_refl _) _
              have HIL : Hid (IL (w6.alloc (.cells #[.int .i64 item] 3)) w5.heap.size (.slice v6a m6 v6c) e.n.ln) := IL.below H6.out.2.2.2.2.1 bz
              clear bz
              go_wp2_with (first | (refine wpList_bs1i (.tmp 104) rfl item rfl rfl ?_) | (refine wpList_appi rfl (.tmp 103) (.tmp 105) rfl w5.heap.size (.slice v6a m6 v6c) e.n.ln rfl HIL.out (some ⟨w6.heap.size, 0, none⟩) 1 1 [item] rfl rfl (seg_one w6 item) (by have := HM6.out; omega) (by decide) (by have := H6.out.2.2.2.2.2; rw [World.size_alloc]; omega) ?_))
              intro v7 w7 h7 g7 o7
              obtain ⟨v7a, v7c, hv7⟩ := IL.form h7
              obtain ⟨m7, hm7⟩ : ∃ m7, m7 = List.length (e.n.ln ++ [item]) := ⟨_, rfl⟩
              rw [← hm7] at hv7
              subst hv7
              have hg7 : ∀ g, (Value.slice v6a m6 v6c).ownBlock = some g → w5.heap.size ≤ g := fun g hg => (IL.cells H6.out.2.2.2.2.1 g hg).1
              have b7 : Below w5.heap.size w6 w7 := (((Below.refl _ _).alloc (by exact H6.out.2.2.2.2.2) _) : Below w5.heap.size w6 _).trans (grown_below g7 hg7 (by have := H6.out.2.2.2.2.2; rw [World.size_alloc]; omega))
              have k7 : Ch (fun q => w5.heap.size ≤ q) w6 w7 := ⟨b7.os, b7.tape, b7.output, b7.size, fun q hq hn => b7.block q (by omega)⟩
              have H7 : Hid (RenAt w7 D e ∧ WS w B rc k w7 ∧ B + 5 ≤ D ∧ D + 1 ≤ w5.heap.size ∧ IL w7 w5.heap.size (.slice v7a m7 v7c) (e.n.ln ++ [item]) ∧ w5.heap.size ≤ w7.heap.size) := ⟨H6.out.1.ch k7 (by have := H6.out.2.2.2.1; omega), H6.out.2.1.ch k7 (fun q hq => by have := H6.out.2.2.1; have := H6.out.2.2.2.1; omega) HOX.out, H6.out.2.2.1, H6.out.2.2.2.1, h7, Nat.le_trans H6.out.2.2.2.2.2 b7.size⟩
              clear h7 g7 o7 b7 k7 hg7 HIL H6
              have HM7 : Hid (m7 = (e.n.ln ++ [item]).length) := hm7
              clear hm7
              obtain ⟨ne, hne⟩ : ∃ ne : RE, ne = ⟨{ e.n with ln := e.n.ln ++ [item] }, v7a, v7c⟩ := ⟨_, rfl⟩
              obtain ⟨X, hX⟩ : ∃ X, X = (w7.setCell ⟨D, 28, none⟩ (.slice v7a m7 v7c)).setCell ⟨D, 27, none⟩ (.int .i64 (m7 : Int)) := ⟨_, rfl⟩
              have kX : Ch (fun q => q = D) w7 X := by rw [hX]; exact ((Ch.refl (fun q => q = D) w7).set _ _ rfl).set _ _ rfl
              have rX : RenAt X D ne := by
                rw [hX, hne]
                have h9 := H7.out.1
                unfold RenAt at h9 ⊢
                rw [heap_setCell_same _ D 27 _ _ _ (heap_setCell_same w7 D 28 _ _ _ h9), HM7.out]
                rfl
              have hnD : ∀ q off, v7a = some ⟨q, off, none⟩ → w5.heap.size ≤ q ∧ q < w7.heap.size := fun q off hq => by
                have h9 := IL.cells H7.out.2.2.2.2.1
                rcases H7.out.2.2.2.2.1.2 with ⟨e9, _⟩ | ⟨g9, cap9, cur9, e9, _⟩
                · simp only [Value.slice.injEq] at e9; rw [e9.1] at hq; cases hq
                · simp only [Value.slice.injEq] at e9
                  rw [e9.1] at hq
                  cases hq
                  have := h9 q (by rw [e9.1]; rfl)
                  exact ⟨this.1, this.2.1⟩
              have sgX : Seg .i64 X ne.la ne.n.ln := by
                rw [hne]
                have h9 : LnAt w7 (.slice v7a m7 v7c) (e.n.ln ++ [item]) := ⟨H7.out.2.2.2.2.1.1, H7.out.2.2.2.2.1.2.imp id (fun ⟨g, cap, cur, e9, _, r9⟩ => ⟨g, cap, cur, e9, Nat.zero_le _, r9⟩)⟩
                refine kX.seg (LnAt.seg h9) (fun x hz hx hs => ?_)
                have hs' : x.block = D := hs
                have h8 := seg_form (LnAt.seg h9) hz hx
                have := (hnD _ _ h8).1
                have := H7.out.2.2.2.1
                omega
              have HXA : Hid (RenAt X D ne ∧ WS w B rc k X ∧ B + 5 ≤ D ∧ D + 1 ≤ w5.heap.size ∧ w5.heap.size ≤ X.heap.size) := ⟨rX, H7.out.2.1.ch kX (fun q e => by have e' : q = D := e; have := H7.out.2.2.1; omega) HOX.out, H7.out.2.2.1, H7.out.2.2.2.1, Nat.le_trans H7.out.2.2.2.2.2 kX.size⟩
              have HXE : Hid ((w7.setCell ⟨D, 28, none⟩ (.slice v7a m7 v7c)).setCell ⟨D, 27, none⟩ (.int .i64 (m7 : Int)) = X) := hX.symm
              have d28 := H7.out.1.fz 28
              have d27 := H7.out.1.fz 27
              have c28 : w7.cell? ⟨D, 28, none⟩ = some (.slice e.la e.n.ln.length e.lc) := H7.out.1.cell 28
              have c27 : w7.cell? ⟨D, 27, none⟩ = some (.int .i64 (e.n.ln.length : Int)) := H7.out.1.cell 27
              have HNE : Hid (ne = ⟨{ e.n with ln := e.n.ln ++ [item] }, v7a, v7c⟩) := hne
              have QP : Hid _ := rput_rs (HRS.out X HXA.out.2.1.bel) i ne (by have := HN.out; omega) (by have := HN.out.2.2.1; omega) sgX (fun q off hq => by rw [hne] at hq; have := (hnD q off hq).2; have := kX.size; omega)
              have HVA : Hid (∀ q off, v7a = some ⟨q, off, none⟩ → w5.heap.size ≤ q) := fun q off hq => (hnD q off hq).1
              have cX : X.cell? ⟨B, 5, none⟩ = some (.slice rc.la rc.n rc.lc) := HXA.out.2.1.c.cell 5
              clear hX kX rX hne H7 hnD sgX
              go_upto_region 30 with fail
              rw [HXE.out]
              clear HXE c27 c28 d27 d28
              go_wp2_with (first | (refine wpList_load_ren (.tmp 17) rfl D ne rfl HXA.out.1 rfl ?_))
              refine Calls.mono QP.out ?_
              rintro r w8 ⟨va, n8, vc, rfl, p2, p3, b8⟩
              obtain ⟨rn, hrn⟩ : ∃ rn : RC, rn = ⟨rc.c, va, n8, vc⟩ := ⟨_, rfl⟩
              obtain ⟨RR, hRR⟩ : ∃ RR, RR = R.set i ne := ⟨_, rfl⟩
              rw [← hrn, ← hRR] at p2
              have HRB : Hid (∀ q, RB rn RR q → RB rc R q ∨ B + 5 ≤ q) := by
                have h5 := HXA.out.2.2
                rintro q (⟨off, hq⟩ | ⟨y, hy, off, hq⟩)
                · rw [hrn] at hq
                  have := p3 q off hq
                  exact .inr (by omega)
                · rw [hRR] at hy
                  rcases List.mem_or_eq_of_mem_set hy with hy | hy
                  · exact .inl (.inr ⟨y, hy, off, hq⟩)
                  · rw [hy, HNE.out] at hq
                    have := HVA.out q off hq
                    exact .inr (by omega)
              have H8 : Hid (WS w B rc k w8 ∧ RSt rn RR w8) := ⟨HXA.out.2.1.below b8, p2⟩
              have c6 : w8.cell? ⟨B, 5, none⟩ = some (.slice rc.la rc.n rc.lc) := H8.out.1.c.cell 5
              have f6 := H8.out.1.c.fz 5
              obtain ⟨X2, hX2⟩ : ∃ X2, X2 = w8.setCell ⟨B, 5, none⟩ (.slice va n8 vc) := ⟨_, rfl⟩
              have kX2 : Ch (fun q => q = B) w8 X2 := by rw [hX2]; exact (Ch.refl (fun q => q = B) w8).set _ _ rfl
              have HW2 : Hid (WS w B rn k X2) := by have h9 := H8.out.1.setl HOX.out va n8 vc; rw [← hX2, ← hrn] at h9; exact h9
              have HX : Hid (EX w B rn (B + 4) 0 mz RR X2 ∧ RchAt X2 (B + 2) rcz ∧ MacAt X2 (B + 3) mz) := ⟨⟨HW2.out.c, MacAt.all HW2.out.no, HW2.out.bel, H8.out.2.ch kX2 (fun q hq e => rb_ne HLT.out (HRB.out q hq) (Nat.le_refl _) (by omega) e)⟩, HW2.out.rc, HW2.out.rm⟩
              have HXE : Hid (w8.setCell ⟨B, 5, none⟩ (.slice va n8 vc) = X2) := hX2.symm
              have HRES : Hid (RWantR rc.c R k item RR mz 4 0 ∧ rn.c = rc.c) := ⟨.inr ⟨HKB.out, .inr ⟨i, e, HEM.out.1, HEM.out.2.1, .inr (.inr (.inr ⟨HN3.out.1, HN3.out.2.1, HN3.out.2.2, by have := HFU.out; omega, ⟨v7a, v7c, by rw [hRR, HNE.out]⟩, rfl, rfl, rfl⟩))⟩⟩, by rw [hrn]⟩
              clear HD
              have HD : Hid (B ≠ B + 2 ∧ B ≠ B + 3 ∧ B + 4 ≠ B + 2 ∧ B + 4 ≠ B + 3) := ⟨by omega, by omega, by omega, by omega⟩
              clear hX2 kX2 hrn hRR p2 p3 b8 QP HXA HW2 H8
              go_upto_region 31 with fail
              rw [HXE.out]
              clear HXE c6 f6 cX
              refine MixH.start (fun A => EX w B rn (B + 4) 0 mz RR A) (by kernel_rfl) ?_
              obtain ⟨wA, hwA⟩ : ∃ wA, wA = X2.drew := ⟨_, rfl⟩
              have bdr : Below X2.heap.size X2 wA := by rw [hwA]; exact (Below.refl _ _).drew
              have HA : Hid (RchAt wA (B + 2) rcz ∧ MacAt wA (B + 3) mz) := ⟨HX.out.2.1.below bdr, HX.out.2.2.below bdr⟩
              have hS : EX w B rn (B + 4) 0 mz RR wA := HX.out.1.drew bdr
              rw [← hwA]
              clear hwA bdr HX
              refine MixH.take 5 0 _ (.agg (rcC rn)) rfl (by kernel_rfl) (by kernel_rfl) (by kernel_rfl) (by kernel_rfl) (yields_rch (.tmp 4) rfl B 0 rn rfl rfl (fun A hA => RchAt.all hA.1)) hS (fun a' ha => ?_)
              simp only [Act.put, List.setIfInBounds_toArray, List.set_cons_succ, List.set_cons_zero] at ha
              subst ha
              refine MixH.take 4 1 _ (.agg (macC mz)) rfl (by kernel_rfl) (by kernel_rfl) (by kernel_rfl) (by kernel_rfl) (yields_mac (.tmp 12) rfl (B + 4) 0 mz rfl rfl (fun A hA => hA.2.1)) hS (fun a' ha => ?_)
              simp only [Act.put, List.setIfInBounds_toArray, List.set_cons_succ, List.set_cons_zero] at ha
              subst ha
              refine MixH.one [false, false, true] 3 2 _ rfl rfl (by kernel_rfl) (by kernel_rfl) (fun K hK => ?_)
              simp only [Mix.pick]
              refine wpList_store_rch (.tmp 8) (.tmp 119) rfl rfl (B + 2) rcz rn rfl rfl HA.out.1 rfl ?_
              intro wE hE kE
              have HE : Hid (RchAt wE (B + 2) rn ∧ MacAt wE (B + 3) mz) := ⟨hE, HA.out.2.ch kE (by omega)⟩
              replace hS : EX w B rn (B + 4) 0 mz RR wE := hS.ch kE HD.out.1 HD.out.2.2.1 (by have := HOX.out; omega) (fun q hq e => rb_ne HLT.out (HRB.out q hq) (by omega) (by omega) e)
              clear hE kE HA
              go_wp2
              refine ⟨rfl, hK _ _ hS ?_⟩
              clear hK K
              refine MixH.one [false, false, false, true] 2 3 _ rfl rfl (by kernel_rfl) (by kernel_rfl) (fun K hK => ?_)
              simp only [Mix.pick]
              refine wpList_store_mac (.tmp 9) (.tmp 120) rfl rfl (B + 3) mz mz rfl rfl HE.out.2 rfl ?_
              intro wF hF kF
              have HF : Hid (RchAt wF (B + 2) rn ∧ MacAt wF (B + 3) mz) := ⟨HE.out.1.ch kF (by omega), hF⟩
              replace hS : EX w B rn (B + 4) 0 mz RR wF := hS.ch kF HD.out.2.1 HD.out.2.2.2 (by have := HOX.out; omega) (fun q hq e => rb_ne HLT.out (HRB.out q hq) (by omega) (by omega) e)
              clear hF kF HE
              go_wp2
              refine ⟨rfl, hK _ _ hS ?_⟩
              clear hK K
              refine MixH.takes [false, false, false, false, true] 1 (by kernel_rfl) (by kernel_rfl) (by decide) (by kernel_rfl) hS (fun K hK => ?_)
              simp only [Mix.pick]
              repeat (go_big_quiet_step (fail))
              refine wpQuiet_nil (hK _ ?_)
              clear hK K
              refine MixH.takes [false, false, false, false, false, true] 0 (by kernel_rfl) (by kernel_rfl) (by decide) (by kernel_rfl) hS (fun K hK => ?_)
              simp only [Mix.pick]
              repeat (go_big_quiet_step (fail))
              refine wpQuiet_nil (hK _ ?_)
              clear hK K
              refine MixH.done (by kernel_rfl) ?_
              have HEND : Hid (EX w B rn (B + 4) 0 mz RR wF) := hS
              clear hS
              go_wp2_with fail
              refine bodyPost_ret (results_want rfl _ _ (B + 2) _ (B + 3) _ rfl rfl HF.out.1 HF.out.2) rfl ?_
              exact ⟨rn, RR, mz, 4, 0, rfl, HRES.out.1, HRES.out.2, HEND.out.2.2.2, HEND.out.2.2.1, fun q hq => (HRB.out q hq).imp id (fun g => by have := HOX.out; omega)⟩
end Go.Proofs.Ytialefdojeddjaa
