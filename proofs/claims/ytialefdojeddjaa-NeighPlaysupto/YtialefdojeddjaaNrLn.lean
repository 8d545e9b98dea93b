/-
  Layer 15's reference: Learn.
-/
import Derived.Test.YtialefdojeddjaaNrKy
import Derived.Deep.CutBlock
namespace Go.Proofs.Ytialefdojeddjaa
open Go.RowKit Go.Maps

def RLearnP (rc : RC) (R : List RE) (k : KV) (m : Nat → Nat) (how : Int) (w : World) (r : Ending) (w' : World) : Prop :=
  ∃ rc' R' la lc l er, r = .returned (.tuple #[.agg (rcC rc'), .slice la (List.length l) lc, .int .i64 er]) ∧ RLearnR rc.c R k m how R' l er ∧ rc'.c = rc.c ∧ RSt rc' R' w' ∧ Seg .i64 w' la l ∧ (∀ q off, la = some ⟨q, off, none⟩ → RB rc R q) ∧ Below w.heap.size w w' ∧ ∀ q, RB rc' R' q → RB rc R q ∨ w.heap.size ≤ q
set_option maxHeartbeats 12800000 in
set_option maxRecDepth 100000 in
theorem rlearn_any (rc : RC) (R : List RE) (k : KV) (m : Nat → Nat) (how : Int) (w : World) (h : RSt rc R w) (hl : rc.n ≤ 1024) (hk : k.Wf) (hm : ∀ i, i < 6 → m i < 256) (hw : ∀ e ∈ R, e.n.k.Wf) :
    Calls Try.prog 74 #[.agg (rcC rc), .int .i64 k.pt, .agg (ipCells k.V k.x), .agg (macC m), .int .i64 how] w fun r w' => RLearnP rc R k m how w r w' := by
  have hi := rch_new w rc
  obtain ⟨Y1, hY1⟩ : ∃ Y, Y = w.alloc (.cells (rcC rc) 87) := ⟨_, rfl⟩
  rw [← hY1] at hi
  obtain ⟨B, hB⟩ : ∃ B, B = w.heap.size := ⟨_, rfl⟩
  have s1 : Y1.heap.size = B + 1 := by rw [hY1, World.size_alloc, hB]
  have b1 : Below w.heap.size w Y1 := by rw [hY1]; exact (Below.refl _ _).alloc (Nat.le_refl _) _
  have hip := ipr_new Y1 k.V k.x
  obtain ⟨Y2, hY2⟩ : ∃ Y, Y = Y1.alloc (.cells (ipCells k.V k.x) 31) := ⟨_, rfl⟩
  rw [← hY2, s1] at hip
  have s2 : Y2.heap.size = B + 2 := by rw [hY2, World.size_alloc, s1]
  have b2 : Below Y1.heap.size Y1 Y2 := by rw [hY2]; exact (Below.refl _ _).alloc (Nat.le_refl _) _
  have hmc := mac_new Y2 m
  obtain ⟨Y, hY⟩ : ∃ Y, Y = Y2.alloc (.cells (macC m) 33) := ⟨_, rfl⟩
  rw [← hY, s2] at hmc
  have s3 : Y.heap.size = B + 3 := by rw [hY, World.size_alloc, s2]
  have b3 : Below Y2.heap.size Y2 Y := by rw [hY]; exact (Below.refl _ _).alloc (Nat.le_refl _) _
  obtain ⟨Z1, hZ1⟩ : ∃ Z, Z = Y.alloc (.cells (rcC rcz) 87) := ⟨_, rfl⟩
  have b4 : Below Y.heap.size Y Z1 := by rw [hZ1]; exact (Below.refl _ _).alloc (Nat.le_refl _) _
  have s4 : Z1.heap.size = B + 4 := by rw [hZ1, World.size_alloc, s3]
  obtain ⟨Z2, hZ2⟩ : ∃ Z, Z = Z1.alloc (.cells (macC mz) 33) := ⟨_, rfl⟩
  have b5 : Below Z1.heap.size Z1 Z2 := by rw [hZ2]; exact (Below.refl _ _).alloc (Nat.le_refl _) _
  have s5 : Z2.heap.size = B + 5 := by rw [hZ2, World.size_alloc, s4]
  have m1 : RchAt Z1 (B + 3) rcz := by rw [hZ1, ← s3]; exact rch_new Y rcz
  have m2 : MacAt Z2 (B + 4) mz := by rw [hZ2, ← s4]; exact mac_new Z1 mz
  rw [← hB] at hi
  have HZ : Hid (VS w B rc k m Z2) := ⟨((((hi.below b2).below b3).below b4).below b5), (((hip.below b3).below b4).below b5), ((hmc.below b4).below b5), m1.below b5, m2, bthen (bthen (bthen (bthen b1 b2) b3) b4) b5, by omega⟩
  obtain ⟨CI, hCI⟩ : ∃ C, C = rcC rc := ⟨_, rfl⟩
  obtain ⟨CM, hCM⟩ : ∃ C, C = ipCells k.V k.x := ⟨_, rfl⟩
  obtain ⟨CN, hCN⟩ : ∃ C, C = macC m := ⟨_, rfl⟩
  rw [hY2, hY1, ← hCI, ← hCM, ← hCN] at hY
  rw [← hCI, ← hCM, ← hCN]
  have HW : Hid (((w.alloc (.cells CI 87)).alloc (.cells CM 31)).alloc (.cells CN 33) = Y ∧ Y.heap.size = B + 3 ∧ Y.alloc (.cells (rcC rcz) 87) = Z1 ∧ Z1.heap.size = B + 4 ∧ Z1.alloc (.cells (macC mz) 33) = Z2) := ⟨hY.symm, s3, hZ1.symm, s4, hZ2.symm⟩
  have HOX : Hid (w.heap.size = B) := hB.symm
  have HRS : Hid (∀ A, Below w.heap.size w A → RSt rc R A) := fun A b => h.below b
  have HLT : Hid (∀ q, RB rc R q → q < B) := fun q hq => by rw [hB]; exact h.lt q hq
  obtain ⟨n, hnn⟩ : ∃ n, n = rc.n := ⟨_, rfl⟩
  have HN : Hid (R.length = n ∧ n ≤ 1024 ∧ n = rc.n ∧ k.Wf ∧ (∀ e ∈ R, e.n.k.Wf) ∧ ∀ i, i < 6 → m i < 256) := ⟨h.len.trans hnn.symm, by omega, hnn, hk, hw, hm⟩
  clear hi hip hmc hY hY1 hY2 hB hCI hCM hCN hZ1 hZ2 b1 b2 b3 b4 b5 s1 s2 s3 s4 s5 m1 m2 h hl hk hw hm hnn
  go_enter Try.func74, Try.ntmps74
  go_upto_region 1 with (first | (rw [HW.out.1]; refine wpList_alloc_rch rfl rfl ?_; rw [HW.out.2.1, HW.out.2.2.1]; simp only [Act.put, List.setIfInBounds_toArray, List.set_cons_succ, List.set_cons_zero]))
  rw [HOX.out]
  go_wp2_with (first | (refine wpList_build_mac0 rfl rfl ?_) | (refine wpList_alloc_mac rfl rfl ?_; rw [HW.out.2.2.2.1, HW.out.2.2.2.2]; simp only [Act.put, List.setIfInBounds_toArray, List.set_cons_succ, List.set_cons_zero]) | (refine wpList_store_mac (.tmp 13) (.tmp 20) rfl rfl (B + 4) mz mz rfl rfl HZ.out.no rfl ?_))
  intro w1 h1 k1
  have H1 : Hid (VS w B rc k m w1) := ⟨HZ.out.c.ch k1 (by omega), HZ.out.ip.ch k1 (by omega), HZ.out.mc.ch k1 (by omega), HZ.out.rc.ch k1 (by omega), h1, HZ.out.bel.trans (k1.below (fun q e => by have e' : q = B + 4 := e; have := HOX.out; omega) HZ.out.bel.size), Nat.le_trans HZ.out.sz k1.size⟩
  clear h1 k1 HZ HW
  go_wp2_with (first | (refine wpList_load_ipr (.tmp 7) rfl (B + 1) k.V k.x rfl H1.out.ip rfl ?_))
  refine Calls.mono (raddr_any k.V k.x w1) ?_
  rintro r w2 ⟨rfl, b2⟩
  have H2 : Hid (VS w B rc k m w2) := H1.out.below b2
  clear b2 H1
  go_upto_region 3 with fail
  go_cut [14, 43] (fun _ v wx => v = .bool (!lB k m how) ∧ w2 = wx)
  case first =>
    have QO : Hid (∀ b, inR k.pt 0 7 = b → Calls Try.prog 79 #[.int .i64 k.pt, .int .i64 0, .int .i64 7] w2 fun e w' => e = .returned (.bool (!b)) ∧ w2 = w') := fun b hb => by
      refine (rout_any k.pt 0 7 w2).mono ?_
      rintro e w' ⟨rfl, rfl⟩
      rw [hb]
      exact ⟨rfl, rfl⟩
    have QH : Hid (∀ b, inR how 1 3 = b → Calls Try.prog 79 #[.int .i64 how, .int .i64 1, .int .i64 3] w2 fun e w' => e = .returned (.bool (!b)) ∧ w2 = w') := fun b hb => by
      refine (rout_any how 1 3 w2).mono ?_
      rintro e w' ⟨rfl, rfl⟩
      rw [hb]
      exact ⟨rfl, rfl⟩
    have HLB : Hid (lB k m how = (inR k.pt 0 7 && ipB k.V k.x && (!(same6 m mz) && (m 0 % 2 == 0)) && inR how 1 3)) := rfl
    cases hip : ipB k.V k.x with
    | false =>
      have HF : Hid (lB k m how = false) := by show _ = _; rw [HLB.out, hip]; simp
      clear hip QO QH HLB
      go_wp2_with fail
      go_meet
      rw [HF.out]
      exact ⟨rfl, rfl⟩
    | true =>
      cases hin : inR k.pt 0 7 with
      | false =>
        have HF : Hid (lB k m how = false) := by show _ = _; rw [HLB.out, hin]; simp
        have HIN : Hid (inR k.pt 0 7 = false) := hin
        clear hip hin QH HLB
        go_wp2_with fail
        refine Calls.mono (QO.out _ HIN.out) ?_
        rintro r x ⟨rfl, rfl⟩
        go_wp2_with fail
        go_meet
        rw [HF.out]
        exact ⟨rfl, rfl⟩
      | true =>
        have HIN : Hid (inR k.pt 0 7 = true) := hin
        cases hs : same6 m mz with
        | true =>
          have HF : Hid (lB k m how = false) := by show _ = _; rw [HLB.out, hs]; simp
          have HS6 : Hid (same6 m mz = true) := hs
          clear hip hin hs QH HLB
          go_wp2_with fail
          refine Calls.mono (QO.out _ HIN.out) ?_
          rintro r x ⟨rfl, rfl⟩
          go_wp2_with (first | (refine wpList_load_mac (.tmp 8) rfl (B + 2) m rfl H2.out.mc rfl ?_) | (refine wpList_load_mac (.tmp 13) rfl (B + 4) mz rfl H2.out.no rfl ?_) | (refine wpList_eql_mac (.tmp 30) (.tmp 31) rfl m mz rfl rfl true HS6.out rfl ?_))
          go_meet
          rw [HF.out]
          exact ⟨rfl, rfl⟩
        | false =>
          have HS6 : Hid (same6 m mz = false) := hs
          obtain ⟨a, ha⟩ : ∃ a, m 0 = a := ⟨_, rfl⟩
          have c0 : w2.cell? ⟨B + 2, 0, none⟩ = some (.int .u8 (a : Nat)) := by rw [← ha]; exact H2.out.mc.cell 0
          have hrem := rem_u8 a (by rw [← ha]; exact HN.out.2.2.2.2.2 0 (by omega))
          cases ho : (a % 2 == 1) with
          | true =>
            have HF : Hid (lB k m how = false) := by
              show _ = _
              have h0 : (a % 2 == 0) = false := by simp only [beq_iff_eq] at ho; rw [ho]; rfl
              rw [HLB.out, ha, h0]; simp
            rw [ho] at hrem
            clear hip hin hs QH HLB ho ha
            go_wp2_with fail
            refine Calls.mono (QO.out _ HIN.out) ?_
            rintro r x ⟨rfl, rfl⟩
            go_wp2_with (first | (refine wpList_load_mac (.tmp 8) rfl (B + 2) m rfl H2.out.mc rfl ?_) | (refine wpList_load_mac (.tmp 13) rfl (B + 4) mz rfl H2.out.no rfl ?_) | (refine wpList_eql_mac (.tmp 30) (.tmp 31) rfl m mz rfl rfl false HS6.out rfl ?_))
            go_meet
            rw [HF.out]
            exact ⟨rfl, rfl⟩
          | false =>
            have h0 : (a % 2 == 0) = true := by simp only [beq_eq_false_iff_ne] at ho; simp only [beq_iff_eq]; omega
            rw [ho] at hrem
            cases hh : inR how 1 3 with
            | false =>
              have HF : Hid (lB k m how = false) := by show _ = _; rw [HLB.out, hh]; simp
              have HHO : Hid (inR how 1 3 = false) := hh
              clear hip hin hs HLB ho ha hh h0
              go_wp2_with fail
              refine Calls.mono (QO.out _ HIN.out) ?_
              rintro r x ⟨rfl, rfl⟩
              go_wp2_with (first | (refine wpList_load_mac (.tmp 8) rfl (B + 2) m rfl H2.out.mc rfl ?_) | (refine wpList_load_mac (.tmp 13) rfl (B + 4) mz rfl H2.out.no rfl ?_) | (refine wpList_eql_mac (.tmp 30) (.tmp 31) rfl m mz rfl rfl false HS6.out rfl ?_))
              refine Calls.mono (QH.out _ HHO.out) ?_
              rintro r x ⟨rfl, rfl⟩
              go_wp2_with fail
              go_meet
              rw [HF.out]
              exact ⟨rfl, rfl⟩
            | true =>
              have HF : Hid (lB k m how = true) := by show _ = _; rw [HLB.out, hh, hin, hip, hs, ha, h0]; rfl
              have HHO : Hid (inR how 1 3 = true) := hh
              clear hip hin hs HLB ho ha hh h0
              go_wp2_with fail
              refine Calls.mono (QO.out _ HIN.out) ?_
              rintro r x ⟨rfl, rfl⟩
              go_wp2_with (first | (refine wpList_load_mac (.tmp 8) rfl (B + 2) m rfl H2.out.mc rfl ?_) | (refine wpList_load_mac (.tmp 13) rfl (B + 4) mz rfl H2.out.no rfl ?_) | (refine wpList_eql_mac (.tmp 30) (.tmp 31) rfl m mz rfl rfl false HS6.out rfl ?_))
              refine Calls.mono (QH.out _ HHO.out) ?_
              rintro r x ⟨rfl, rfl⟩
              go_wp2_with fail
              go_meet
              rw [HF.out]
              exact ⟨rfl, rfl⟩
  case rest =>
    obtain ⟨rfl, rfl⟩ := hcut
    cases hlb : lB k m how with
    | false =>
      have HKB : Hid (lB k m how = false) := hlb
      clear hlb
      have HX : Hid (RchAt w2 B rc ∧ RchAt w2 (B + 3) rcz ∧ Below w.heap.size w w2 ∧ RSt rc R w2 ∧ Seg .i64 w2 none []) := ⟨H2.out.c, H2.out.rc, H2.out.bel, HRS.out w2 H2.out.bel, .inl rfl⟩
      have HRB : Hid (∀ q, RB rc R q → RB rc R q ∨ B + 5 ≤ q) := fun q hq => .inl hq
      have HSA : Hid (∀ q off, (none : Option Addr) = some ⟨q, off, none⟩ → RB rc R q) := fun q off hq => by cases hq
      have HRES : Hid (RLearnR rc.c R k m how R [] 1 ∧ rc.c = rc.c) := ⟨.inl ⟨HKB.out, rfl, rfl, rfl⟩, rfl⟩
      clear H2
      go_wp2_with (first | (refine wpList_load_rch (.tmp 5) rfl B rc rfl HX.out.1 rfl ?_) | (refine wpList_store_rch (.tmp 10) (.tmp 44) rfl rfl (B + 3) rcz rc rfl rfl HX.out.2.1 rfl ?_))
      intro wE hE kE
      have HE : Hid (RchAt wE (B + 3) rc ∧ Below w.heap.size w wE ∧ RSt rc R wE ∧ Seg .i64 wE none []) := ⟨hE, HX.out.2.2.1.trans (kE.below (fun q e => by have e' : q = B + 3 := e; have := HOX.out; omega) HX.out.2.2.1.size), HX.out.2.2.2.1.ch kE (fun q hq e => rb_ne HLT.out (HRB.out q hq) (by omega) (by omega) e), kE.seg HX.out.2.2.2.2 (fun x hz hx hs => by have hs' : x.block = B + 3 := hs; have h8 := HLT.out _ (HSA.out _ _ (seg_form HX.out.2.2.2.2 hz hx)); omega)⟩
      clear hE kE HX
      go_wp2_with fail
      refine bodyPost_ret (results_learn rfl _ _ (B + 3) _ rfl HE.out.1) rfl ?_
      exact ⟨rc, R, none, 0, [], 1, rfl, HRES.out.1, rfl, HE.out.2.2.1, HE.out.2.2.2, HSA.out, HE.out.2.1, fun q hq => (HRB.out q hq).imp id (fun g => by have := HOX.out; omega)⟩
    | true =>
      have HKB : Hid (lB k m how = true) := hlb
      have QF : Hid _ := rfind_any rc R k.pt k.V k.x w2 (HRS.out w2 H2.out.bel).er (HRS.out w2 H2.out.bel).len (by have := HN.out; omega)
      obtain ⟨fd, hfd⟩ : ∃ fd, fd = fdI R ⟨k.pt, k.V, k.x⟩ 0 := ⟨_, rfl⟩
      rw [← hfd] at QF
      have HFD : Hid (fd = fdI R ⟨k.pt, k.V, k.x⟩ 0) := hfd
      clear hlb hfd
      go_wp2_with (first | (refine wpList_load_rch (.tmp 5) rfl B rc rfl H2.out.c rfl ?_) | (refine wpList_load_ipr (.tmp 7) rfl (B + 1) k.V k.x rfl H2.out.ip rfl ?_))
      refine Calls.mono QF.out ?_
      rintro r w3 ⟨rfl, b3⟩
      have H3 : Hid (VS w B rc k m w3) := H2.out.below b3
      clear b3 QF H2
      rcases fdI_cases k R 0 with ⟨g1, g2⟩ | ⟨i, e, g1, g2, g3⟩
      · obtain rfl : fd = -1 := by rw [HFD.out]; exact g1
        have HNO : Hid (∀ r ∈ R, eqP r.n.k k = false) := g2
        clear g1 g2 HFD
        by_cases h2 : how = 2
        rotate_left
        · have q2 : (how != 2) = true := by simpa using h2
          have HH2 : Hid (how ≠ 2) := h2
          clear h2
          have HX : Hid (RchAt w3 B rc ∧ RchAt w3 (B + 3) rcz ∧ Below w.heap.size w w3 ∧ RSt rc R w3 ∧ Seg .i64 w3 none []) := ⟨H3.out.c, H3.out.rc, H3.out.bel, HRS.out w3 H3.out.bel, .inl rfl⟩
          have HRB : Hid (∀ q, RB rc R q → RB rc R q ∨ B + 5 ≤ q) := fun q hq => .inl hq
          have HSA : Hid (∀ q off, (none : Option Addr) = some ⟨q, off, none⟩ → RB rc R q) := fun q off hq => by cases hq
          have HRES : Hid (RLearnR rc.c R k m how R [] 0 ∧ rc.c = rc.c) := ⟨.inr ⟨HKB.out, .inr (.inl ⟨HNO.out, HH2.out, rfl, rfl, rfl⟩)⟩, rfl⟩
          clear H3
          go_wp2_with (first | (refine wpList_load_rch (.tmp 5) rfl B rc rfl HX.out.1 rfl ?_) | (refine wpList_store_rch (.tmp 10) (.tmp 53) rfl rfl (B + 3) rcz rc rfl rfl HX.out.2.1 rfl ?_))
          intro wE hE kE
          have HE : Hid (RchAt wE (B + 3) rc ∧ Below w.heap.size w wE ∧ RSt rc R wE ∧ Seg .i64 wE none []) := ⟨hE, HX.out.2.2.1.trans (kE.below (fun q e => by have e' : q = B + 3 := e; have := HOX.out; omega) HX.out.2.2.1.size), HX.out.2.2.2.1.ch kE (fun q hq e => rb_ne HLT.out (HRB.out q hq) (by omega) (by omega) e), kE.seg HX.out.2.2.2.2 (fun x hz hx hs => by have hs' : x.block = B + 3 := hs; have h8 := HLT.out _ (HSA.out _ _ (seg_form HX.out.2.2.2.2 hz hx)); omega)⟩
          clear hE kE HX
          go_wp2_with fail
          refine bodyPost_ret (results_learn rfl _ _ (B + 3) _ rfl HE.out.1) rfl ?_
          exact ⟨rc, R, none, 0, [], 0, rfl, HRES.out.1, rfl, HE.out.2.2.1, HE.out.2.2.2, HSA.out, HE.out.2.1, fun q hq => (HRB.out q hq).imp id (fun g => by have := HOX.out; omega)⟩
        have q2 : (how != 2) = false := by simpa using h2
        have HH2 : Hid (how = 2) := h2
        clear h2
        have QR : Hid _ := rroom_rs (HRS.out w3 H3.out.bel) (by have := HN.out; omega)
        go_wp2_with (first | (refine wpList_load_rch (.tmp 5) rfl B rc rfl H3.out.c rfl ?_))
        refine Calls.mono QR.out ?_
        rintro r w4 ⟨b4, hq4⟩
        have H4 : Hid (VS w B rc k m w4) := H3.out.below b4
        clear b4 QR H3
        rcases hq4 with ⟨g1, g2, rfl⟩ | ⟨rcd, L, rfl, g1, g2, g3, g4⟩
        · have HOL : Hid (¬ (R.length : Int) < rc.c.mx ∧ OldI R R.length none) := ⟨g1, g2⟩
          clear g1 g2
          obtain ⟨Z, hZ⟩ : ∃ Z, Z = w4.alloc (.cells (rcC rcz) 87) := ⟨_, rfl⟩
          obtain ⟨D, hD⟩ : ∃ D, D = w4.heap.size := ⟨_, rfl⟩
          have bZ : Below w4.heap.size w4 Z := by rw [hZ]; exact (Below.refl _ _).alloc (Nat.le_refl _) _
          have HZD : Hid (RchAt Z D rcz ∧ VS w B rc k m Z ∧ B + 5 ≤ D) := ⟨by rw [hZ, hD]; exact rch_new w4 rcz, H4.out.below bZ, by rw [hD]; exact H4.out.sz⟩
          have HZE : Hid (w4.heap.size = D ∧ w4.alloc (.cells (rcC rcz) 87) = Z) := ⟨hD.symm, hZ.symm⟩
          clear hZ hD bZ H4
          go_wp2_with (first | (refine wpList_alloc_rch rfl rfl ?_; rw [HZE.out.1, HZE.out.2]; simp only [Act.put, List.setIfInBounds_toArray, List.set_cons_succ, List.set_cons_zero]) | (refine wpList_store_rch (.tmp 16) (.tmp 57) rfl rfl D rcz rc rfl rfl HZD.out.1 rfl ?_))
          intro w5 h5 k5
          have H5 : Hid (VS w B rc k m w5) := HZD.out.2.1.ch k5 (fun q e => by have e' : q = D := e; have := HZD.out.2.2; omega) HOX.out
          clear h5 k5 HZD HZE
          have HX : Hid (RchAt w5 B rc ∧ RchAt w5 (B + 3) rcz ∧ Below w.heap.size w w5 ∧ RSt rc R w5 ∧ Seg .i64 w5 none []) := ⟨H5.out.c, H5.out.rc, H5.out.bel, HRS.out w5 H5.out.bel, .inl rfl⟩
          have HRB : Hid (∀ q, RB rc R q → RB rc R q ∨ B + 5 ≤ q) := fun q hq => .inl hq
          have HSA : Hid (∀ q off, (none : Option Addr) = some ⟨q, off, none⟩ → RB rc R q) := fun q off hq => by cases hq
          have HRES : Hid (RLearnR rc.c R k m how R [] 151 ∧ rc.c = rc.c) := ⟨.inr ⟨HKB.out, .inl ⟨HNO.out, HH2.out, ⟨⟨⟨k, m, 3, 0, 0, []⟩, none, 0⟩, rfl, .inr (.inl ⟨by have := HOL.out.1; omega, HOL.out.2, rfl, rfl⟩)⟩, rfl⟩⟩, rfl⟩
          clear H5
          go_wp2_with (first | (refine wpList_load_rch (.tmp 5) rfl B rc rfl HX.out.1 rfl ?_) | (refine wpList_store_rch (.tmp 10) (.tmp 61) rfl rfl (B + 3) rcz rc rfl rfl HX.out.2.1 rfl ?_))
          intro wE hE kE
          have HE : Hid (RchAt wE (B + 3) rc ∧ Below w.heap.size w wE ∧ RSt rc R wE ∧ Seg .i64 wE none []) := ⟨hE, HX.out.2.2.1.trans (kE.below (fun q e => by have e' : q = B + 3 := e; have := HOX.out; omega) HX.out.2.2.1.size), HX.out.2.2.2.1.ch kE (fun q hq e => rb_ne HLT.out (HRB.out q hq) (by omega) (by omega) e), kE.seg HX.out.2.2.2.2 (fun x hz hx hs => by have hs' : x.block = B + 3 := hs; have h8 := HLT.out _ (HSA.out _ _ (seg_form HX.out.2.2.2.2 hz hx)); omega)⟩
          clear hE kE HX
          go_wp2_with fail
          refine bodyPost_ret (results_learn rfl _ _ (B + 3) _ rfl HE.out.1) rfl ?_
          exact ⟨rc, R, none, 0, [], 151, rfl, HRES.out.1, rfl, HE.out.2.2.1, HE.out.2.2.2, HSA.out, HE.out.2.1, fun q hq => (HRB.out q hq).imp id (fun g => by have := HOX.out; omega)⟩
        · have HL : Hid (rcd.c = rc.c ∧ (∀ e ∈ L, e ∈ R) ∧ (((R.length : Int) < rc.c.mx ∧ L = R) ∨ (¬ (R.length : Int) < rc.c.mx ∧ ∃ j, OldI R R.length (some j) ∧ L = R.take j ++ R.drop (j + 1)))) := ⟨g1, g3, g4⟩
          have hLn : L.length ≤ 1024 := by
            have := HN.out
            rcases g4 with ⟨_, rfl⟩ | ⟨_, j, _, rfl⟩
            · omega
            · rw [List.length_append, List.length_take, List.length_drop]; omega
          obtain ⟨Z, hZ⟩ : ∃ Z, Z = w4.alloc (.cells (rcC rcz) 87) := ⟨_, rfl⟩
          obtain ⟨D, hD⟩ : ∃ D, D = w4.heap.size := ⟨_, rfl⟩
          have bZ : Below w4.heap.size w4 Z := by rw [hZ]; exact (Below.refl _ _).alloc (Nat.le_refl _) _
          have sZ : Z.heap.size = D + 1 := by rw [hZ, World.size_alloc, hD]
          have HZD : Hid (RchAt Z D rcz ∧ VS w B rc k m Z ∧ B + 5 ≤ D ∧ RSt rcd L Z ∧ (∀ q, RB rcd L q → q < D) ∧ Z.heap.size = D + 1 ∧ L.length ≤ 1024) := ⟨by rw [hZ, hD]; exact rch_new w4 rcz, H4.out.below bZ, by rw [hD]; exact H4.out.sz, g2.below bZ, by rw [hD]; exact g2.lt, sZ, hLn⟩
          have HZE : Hid (w4.heap.size = D ∧ w4.alloc (.cells (rcC rcz) 87) = Z) := ⟨hD.symm, hZ.symm⟩
          clear hZ hD bZ H4 g1 g2 g3 g4 sZ hLn
          go_wp2_with (first | (refine wpList_alloc_rch rfl rfl ?_; rw [HZE.out.1, HZE.out.2]; simp only [Act.put, List.setIfInBounds_toArray, List.set_cons_succ, List.set_cons_zero]) | (refine wpList_store_rch (.tmp 16) (.tmp 57) rfl rfl D rcz rcd rfl rfl HZD.out.1 rfl ?_))
          intro w5 h5 k5
          have H5 : Hid (RchAt w5 D rcd ∧ VS w B rc k m w5 ∧ B + 5 ≤ D ∧ RSt rcd L w5 ∧ D + 1 ≤ w5.heap.size ∧ L.length ≤ 1024) := ⟨h5, HZD.out.2.1.ch k5 (fun q e => by have e' : q = D := e; have := HZD.out.2.2.1; omega) HOX.out, HZD.out.2.2.1, HZD.out.2.2.2.1.ch k5 (fun q hq e => by have e' : q = D := e; have := HZD.out.2.2.2.2.1 q hq; omega), by have := k5.size; have := HZD.out.2.2.2.2.2.1; omega, HZD.out.2.2.2.2.2.2⟩
          clear h5 k5 HZD HZE
          have c5 : w5.cell? ⟨D, 5, none⟩ = some (.slice rcd.la rcd.n rcd.lc) := H5.out.1.cell 5
          obtain ⟨ne, hne⟩ : ∃ ne : RE, ne = ⟨⟨k, m, 3, 0, 0, []⟩, none, 0⟩ := ⟨_, rfl⟩
          have HVE : Hid (ne = ⟨⟨k, m, 3, 0, 0, []⟩, none, 0⟩) := hne
          have QW : Hid _ := rwith_rs H5.out.2.2.2.1 ne (by have := H5.out.2.2.2.1.len; have := H5.out.2.2.2.2.2; omega) (fun e he => HN.out.2.2.2.2.1 e (HL.out.2.1 e he)) (by rw [hne]; exact HN.out.2.2.2.1) (by rw [hne]; exact .inl rfl) (fun q off hq => by rw [hne] at hq; cases hq)
          have HLL : Hid (∀ r ∈ L, ∀ q off, r.la = some ⟨q, off, none⟩ → RB rc R q) := fun r hr q off hq => .inr ⟨r, HL.out.2.1 r hr, off, hq⟩
          clear hne
          go_wp2_with (first | (refine wpList_load_ipr (.tmp 7) rfl (B + 1) k.V k.x rfl H5.out.2.1.ip rfl ?_) | (refine wpList_load_mac (.tmp 8) rfl (B + 2) m rfl H5.out.2.1.mc rfl ?_) | (refine wpList_build_nbL (.tmp 64) (.tmp 65) (.tmp 66) rfl k m rfl rfl rfl rfl ?_) | (refine wpList_build_re0 (.tmp 67) rfl ⟨k, m, 3, 0, 0, 0⟩ ne (by rw [HVE.out]; rfl) rfl rfl ?_))
          refine Calls.mono QW.out ?_
          rintro r w6 ⟨va, nl, vc, p, rfl, p1, p2, p3, b6⟩
          have H6 : Hid (RchAt w6 D rcd ∧ VS w B rc k m w6 ∧ RSt ⟨rcd.c, va, nl, vc⟩ (L.take p ++ ne :: L.drop p) w6 ∧ AtPl L ne.n.k p ∧ ∀ q off, va = some ⟨q, off, none⟩ → D < q) := ⟨H5.out.1.below b6, H5.out.2.1.below b6, p2, p1, fun q off hq => by have := p3 q off hq; have := H5.out.2.2.2.2.1; omega⟩
          have HDG : Hid (B + 5 ≤ D) := H5.out.2.2.1
          clear QW p1 p2 p3 b6 H5
          have c6 : w6.cell? ⟨D, 5, none⟩ = some (.slice rcd.la rcd.n rcd.lc) := H6.out.1.cell 5
          have f6 := H6.out.1.fz 5
          obtain ⟨X, hX⟩ : ∃ X, X = w6.setCell ⟨D, 5, none⟩ (.slice va nl vc) := ⟨_, rfl⟩
          have kX : Ch (fun q => q = D) w6 X := by rw [hX]; exact (Ch.refl (fun q => q = D) w6).set _ _ rfl
          obtain ⟨rn, hrn⟩ : ∃ rn : RC, rn = ⟨rcd.c, va, nl, vc⟩ := ⟨_, rfl⟩
          obtain ⟨RR, hRR⟩ : ∃ RR, RR = L.take p ++ ne :: L.drop p := ⟨_, rfl⟩
          have HMM : Hid (∀ q, RB rn RR q → (RB rc R q ∧ q < B) ∨ D < q) := by
            rintro q (⟨off, hq⟩ | ⟨y, hy, off, hq⟩)
            · rw [hrn] at hq
              exact .inr (H6.out.2.2.2.2 q off hq)
            · have hold : ∀ y ∈ L, y.la = some ⟨q, off, none⟩ → (RB rc R q ∧ q < B) ∨ D < q := fun y hy hq => .inl ⟨HLL.out y hy q off hq, HLT.out q (HLL.out y hy q off hq)⟩
              rw [hRR] at hy
              rcases List.mem_append.1 hy with hy | hy
              · exact hold y (List.mem_of_mem_take hy) hq
              · rcases List.mem_cons.1 hy with hy | hy
                · rw [hy, HVE.out] at hq
                  cases hq
                · exact hold y (List.mem_of_mem_drop hy) hq
          have HRB : Hid (∀ q, RB rn RR q → RB rc R q ∨ B + 5 ≤ q) := fun q hq => (HMM.out q hq).imp (fun g => g.1) (fun g => by have := HDG.out; omega)
          have HXW : Hid (VS w B rc k m X) := H6.out.2.1.ch kX (fun q e => by have e' : q = D := e; have := HDG.out; omega) HOX.out
          have HX : Hid (RchAt X D rn ∧ RchAt X (B + 3) rcz ∧ Below w.heap.size w X ∧ RSt rn RR X ∧ Seg .i64 X none []) := ⟨by rw [hX, hrn]; exact H6.out.1.setl va nl vc, HXW.out.rc, HXW.out.bel, by have h9 := H6.out.2.2.1; rw [← hrn, ← hRR] at h9; exact h9.ch kX (fun q hq e => by have e' : q = D := e; have := HDG.out; rcases HMM.out q hq with g | g <;> omega), .inl rfl⟩
          have HSA : Hid (∀ q off, (none : Option Addr) = some ⟨q, off, none⟩ → RB rc R q) := fun q off hq => by cases hq
          have HXE : Hid (w6.setCell ⟨D, 5, none⟩ (.slice va nl vc) = X) := hX.symm
          have HRES : Hid (RLearnR rc.c R k m how RR [] 0 ∧ rn.c = rc.c) := by
            refine ⟨.inr ⟨HKB.out, .inl ⟨HNO.out, HH2.out, ⟨ne, by rw [HVE.out], ?_⟩, rfl⟩⟩, by rw [hrn]; exact HL.out.1⟩
            rcases HL.out.2.2 with ⟨l1, l2⟩ | ⟨l1, j, l2, l3⟩
            · exact .inl ⟨l1, rfl, p, by rw [← l2]; exact H6.out.2.2.2.1, by rw [hRR, l2]⟩
            · exact .inr (.inr ⟨by omega, j, l2, rfl, p, by rw [← l3]; exact H6.out.2.2.2.1, by rw [hRR, l3]⟩)
          clear hX kX hrn hRR HMM HXW HLL
          go_upto_region 13 with fail
          rw [HXE.out]
          clear HXE c5 c6 f6 H6 HVE HL
          go_wp2_with (first | (refine wpList_load_rch (.tmp 16) rfl D rn rfl HX.out.1 rfl ?_) | (refine wpList_store_rch (.tmp 10) (.tmp 71) rfl rfl (B + 3) rcz rn rfl rfl HX.out.2.1 rfl ?_))
          intro wE hE kE
          have HE : Hid (RchAt wE (B + 3) rn ∧ Below w.heap.size w wE ∧ RSt rn RR wE ∧ Seg .i64 wE none []) := ⟨hE, HX.out.2.2.1.trans (kE.below (fun q e => by have e' : q = B + 3 := e; have := HOX.out; omega) HX.out.2.2.1.size), HX.out.2.2.2.1.ch kE (fun q hq e => rb_ne HLT.out (HRB.out q hq) (by omega) (by omega) e), kE.seg HX.out.2.2.2.2 (fun x hz hx hs => by have hs' : x.block = B + 3 := hs; have h8 := HLT.out _ (HSA.out _ _ (seg_form HX.out.2.2.2.2 hz hx)); omega)⟩
          clear hE kE HX
          go_wp2_with fail
          refine bodyPost_ret (results_learn rfl _ _ (B + 3) _ rfl HE.out.1) rfl ?_
          exact ⟨rn, RR, none, 0, [], 0, rfl, HRES.out.1, HRES.out.2, HE.out.2.2.1, HE.out.2.2.2, HSA.out, HE.out.2.1, fun q hq => (HRB.out q hq).imp id (fun g => by have := HOX.out; omega)⟩
      · obtain rfl : fd = (i : Int) := by rw [HFD.out]; simpa using g3
        have hin : i < n := by have := (List.getElem?_eq_some_iff.1 g1).1; have := HN.out.1; omega
        have k0 : (0 : Int) ≤ (i : Int) := by omega
        have k1 : (i : Int) < (n : Int) := by omega
        have k2 : ((i : Int)).toNat = i := by omega
        have k3 : ¬ ((i : Int) < 0) := by omega
        have HEM : Hid (R[i]? = some e ∧ eqP e.n.k k = true ∧ e ∈ R) := ⟨g1, g2, List.mem_of_getElem? g1⟩
        obtain ⟨g, off, hla, hx1, hrg⟩ := (HRS.out w3 H3.out.bel).er.at i e g1
        have csl : w3.cell? ⟨B, 5, none⟩ = some (.slice (some ⟨g, off, none⟩) n rc.lc) := by rw [H3.out.c.cell 5, ← hla, HN.out.2.2.1]; rfl
        obtain ⟨Z, hZ⟩ : ∃ Z, Z = w3.alloc (.cells (reC rez) 163) := ⟨_, rfl⟩
        obtain ⟨D, hD⟩ : ∃ D, D = w3.heap.size := ⟨_, rfl⟩
        have bZ : Below w3.heap.size w3 Z := by rw [hZ]; exact (Below.refl _ _).alloc (Nat.le_refl _) _
        have HZD : Hid (RenAt Z D rez ∧ VS w B rc k m Z ∧ B + 5 ≤ D ∧ Z.heap.size = D + 1) := ⟨by rw [hZ, hD]; exact ren_new w3 rez, H3.out.below bZ, by rw [hD]; exact H3.out.sz, by rw [hZ, World.size_alloc, hD]⟩
        have HZE : Hid (w3.heap.size = D ∧ w3.alloc (.cells (reC rez) 163) = Z) := ⟨hD.symm, hZ.symm⟩
        have HRG : Hid (w3.rangeAt g (off + i * 29) (reC e).toList) := hrg
        clear hZ hD bZ g1 g2 g3 hla hx1 hrg HFD
        go_wp2_with (first | (refine wpList_mid_ren (.tmp 75) rfl g (off + i * 29) e rfl HRG.out rfl ?_) | (refine wpList_alloc_ren rfl rfl ?_; rw [HZE.out.1, HZE.out.2]; simp only [Act.put, List.setIfInBounds_toArray, List.set_cons_succ, List.set_cons_zero]) | (refine wpList_store_ren (.tmp 18) (.tmp 76) rfl rfl D rez e rfl rfl HZD.out.1 rfl ?_))
        intro w5 h5 k5
        have H5 : Hid (RenAt w5 D e ∧ VS w B rc k m w5 ∧ B + 5 ≤ D ∧ D + 1 ≤ w5.heap.size) := ⟨h5, HZD.out.2.1.ch k5 (fun q e => by have e' : q = D := e; have := HZD.out.2.2.1; omega) HOX.out, HZD.out.2.2.1, by have := k5.size; have := HZD.out.2.2.2; omega⟩
        clear h5 k5 HZD HZE csl HRG H3
        obtain ⟨st, hst⟩ : ∃ st, st = e.n.st := ⟨_, rfl⟩
        obtain ⟨mm, hmm⟩ : ∃ mm, mm = e.n.m := ⟨_, rfl⟩
        have HST : Hid (st = e.n.st ∧ mm = e.n.m) := ⟨hst, hmm⟩
        have c24 : w5.cell? ⟨D, 24, none⟩ = some (.int .i64 st) := by rw [hst]; exact H5.out.1.cell 24
        have HRM : Hid (w5.rangeAt D 18 (macC mm).toList) := by rw [hmm]; exact H5.out.1.mac
        clear hst hmm
        go_upto_region 15 with fail
        go_cut [91] (fun v wx => v = .bool (decide (how ≠ 1 ∧ st ≠ 1 ∧ same6 mm m = true)) ∧ w5 = wx)
        case first =>
          by_cases h1 : how = 1
          · have q1 : (how != 1) = false := by simpa using h1
            have HF : Hid (decide (how ≠ 1 ∧ st ≠ 1 ∧ same6 mm m = true) = false) := by show _ = _; rw [decide_eq_false_iff_not]; exact fun h => h.1 h1
            clear h1
            go_wp2_with fail
            go_meet
            rw [HF.out]
            exact ⟨rfl, rfl⟩
          · have q1 : (how != 1) = true := by simpa using h1
            by_cases h3 : st = 1
            · have q3 : (st != 1) = false := by simpa using h3
              have HF : Hid (decide (how ≠ 1 ∧ st ≠ 1 ∧ same6 mm m = true) = false) := by show _ = _; rw [decide_eq_false_iff_not]; exact fun h => h.2.1 h3
              clear h1 h3
              go_wp2_with fail
              go_meet
              rw [HF.out]
              exact ⟨rfl, rfl⟩
            · have q3 : (st != 1) = true := by simpa using h3
              obtain ⟨sb, hsb⟩ : ∃ sb, same6 mm m = sb := ⟨_, rfl⟩
              have HSB : Hid (same6 mm m = sb) := hsb
              have HF : Hid (decide (how ≠ 1 ∧ st ≠ 1 ∧ same6 mm m = true) = sb) := by
                show _ = _
                rw [hsb]
                cases sb with
                | false => rw [decide_eq_false_iff_not]; exact fun h => by cases h.2.2
                | true => rw [decide_eq_true_eq]; exact ⟨h1, h3, rfl⟩
              clear h1 h3 hsb
              go_wp2_with (first | (refine wpList_mid_mac (.tmp 87) rfl D 18 mm rfl HRM.out rfl ?_) | (refine wpList_load_mac (.tmp 8) rfl (B + 2) m rfl H5.out.2.1.mc rfl ?_) | (refine wpList_eql_mac (.tmp 88) (.tmp 89) rfl mm m rfl rfl sb HSB.out rfl ?_))
              go_meet
              rw [HF.out]
              exact ⟨rfl, rfl⟩
        case rest =>
          obtain ⟨rfl, rfl⟩ := hcut
          cases hds : decide (how ≠ 1 ∧ st ≠ 1 ∧ same6 mm m = true) with
          | true =>
            have HDS : Hid (how ≠ 1 ∧ e.n.st ≠ 1 ∧ same6 e.n.m m = true) := by rw [decide_eq_true_eq, HST.out.1, HST.out.2] at hds; exact hds
            have H7 : Hid (VS w B rc k m w5) := H5.out.2.1
            clear hds H5 HRM c24
            have HX : Hid (RchAt w5 B rc ∧ RchAt w5 (B + 3) rcz ∧ Below w.heap.size w w5 ∧ RSt rc R w5 ∧ Seg .i64 w5 none []) := ⟨H7.out.c, H7.out.rc, H7.out.bel, HRS.out w5 H7.out.bel, .inl rfl⟩
            have HRB : Hid (∀ q, RB rc R q → RB rc R q ∨ B + 5 ≤ q) := fun q hq => .inl hq
            have HSA : Hid (∀ q off, (none : Option Addr) = some ⟨q, off, none⟩ → RB rc R q) := fun q off hq => by cases hq
            have HRES : Hid (RLearnR rc.c R k m how R [] 0 ∧ rc.c = rc.c) := ⟨.inr ⟨HKB.out, .inr (.inr ⟨i, e, HEM.out.1, HEM.out.2.1, .inl ⟨HDS.out.1, HDS.out.2.1, HDS.out.2.2, rfl, rfl, rfl⟩⟩)⟩, rfl⟩
            clear H7
            go_wp2_with (first | (refine wpList_load_rch (.tmp 5) rfl B rc rfl HX.out.1 rfl ?_) | (refine wpList_store_rch (.tmp 10) (.tmp 92) rfl rfl (B + 3) rcz rc rfl rfl HX.out.2.1 rfl ?_))
            intro wE hE kE
            have HE : Hid (RchAt wE (B + 3) rc ∧ Below w.heap.size w wE ∧ RSt rc R wE ∧ Seg .i64 wE none []) := ⟨hE, HX.out.2.2.1.trans (kE.below (fun q e => by have e' : q = B + 3 := e; have := HOX.out; omega) HX.out.2.2.1.size), HX.out.2.2.2.1.ch kE (fun q hq e => rb_ne HLT.out (HRB.out q hq) (by omega) (by omega) e), kE.seg HX.out.2.2.2.2 (fun x hz hx hs => by have hs' : x.block = B + 3 := hs; have h8 := HLT.out _ (HSA.out _ _ (seg_form HX.out.2.2.2.2 hz hx)); omega)⟩
            clear hE kE HX
            go_wp2_with fail
            refine bodyPost_ret (results_learn rfl _ _ (B + 3) _ rfl HE.out.1) rfl ?_
            exact ⟨rc, R, none, 0, [], 0, rfl, HRES.out.1, rfl, HE.out.2.2.1, HE.out.2.2.2, HSA.out, HE.out.2.1, fun q hq => (HRB.out q hq).imp id (fun g => by have := HOX.out; omega)⟩
          | false =>
            have HDS : Hid (¬ (how ≠ 1 ∧ e.n.st ≠ 1 ∧ same6 e.n.m m = true)) := by rw [decide_eq_false_iff_not, HST.out.1, HST.out.2] at hds; exact hds
            clear hds HRM
            obtain ⟨e1, he1⟩ : ∃ e1 : RE, e1 = ⟨{ e.n with ln := [] }, none, 0⟩ := ⟨_, rfl⟩
            obtain ⟨nl, hnl⟩ : ∃ nl, nl = e.n.ln.length := ⟨_, rfl⟩
            have HNL : Hid (nl = e.n.ln.length) := hnl
            have c28 : w5.cell? ⟨D, 28, none⟩ = some (.slice e.la nl e.lc) := by rw [hnl]; exact H5.out.1.cell 28
            have f28 := H5.out.1.fz 28
            have H5b : Hid (w5.heap[D]? = some (.cells (reC e) 163 (0, 0)) ∧ VS w B rc k m w5 ∧ B + 5 ≤ D ∧ D + 1 ≤ w5.heap.size) := ⟨H5.out.1, H5.out.2⟩
            obtain ⟨X, hX⟩ : ∃ X, X = w5.setCell ⟨D, 28, none⟩ (.slice none 0 0) := ⟨_, rfl⟩
            have kX : Ch (fun q => q = D) w5 X := by rw [hX]; exact (Ch.refl (fun q => q = D) w5).set _ _ rfl
            have hXc : X.heap[D]? = some (.cells ((reC e).setIfInBounds 28 (.slice none 0 0)) 163 (0, 0)) := by rw [hX]; exact heap_setCell_same w5 D 28 _ _ _ H5b.out.1
            have HXA : Hid (X.heap[D]? = some (.cells ((reC e).setIfInBounds 28 (.slice none 0 0)) 163 (0, 0)) ∧ VS w B rc k m X ∧ B + 5 ≤ D ∧ D + 1 ≤ X.heap.size) := ⟨hXc, H5b.out.2.1.ch kX (fun q e => by have e' : q = D := e; have := H5b.out.2.2.1; omega) HOX.out, H5b.out.2.2.1, Nat.le_trans H5b.out.2.2.2 kX.size⟩
            have HXE : Hid (w5.setCell ⟨D, 28, none⟩ (.slice none 0 0) = X) := hX.symm
            obtain ⟨y3, hy3⟩ : ∃ y3 : RE, y3 = ⟨⟨e.n.k, m, 3, 0, 0, []⟩, none, 0⟩ := ⟨_, rfl⟩
            have HY3 : Hid (setL ((reC e).setIfInBounds 28 (.slice none 0 0)) 0 (nbC ⟨k, m, 3, 0, 0, 0⟩).toList = reC y3) := by
              show _ = _
              rw [setL_nb, ← nb_key HEM.out.2.1 m 3 0 0 0, hy3]
              rfl
            have HYD : Hid (y3 = ⟨⟨e.n.k, m, 3, 0, 0, []⟩, none, 0⟩) := hy3
            clear hX kX hXc he1 hnl H5 H5b hy3
            go_upto_region 19 with fail
            rw [HXE.out]
            clear HXE c28 f28 c24
            go_wp2_with (first | (refine wpList_load_ipr (.tmp 7) rfl (B + 1) k.V k.x rfl HXA.out.2.1.ip rfl ?_) | (refine wpList_load_mac (.tmp 8) rfl (B + 2) m rfl HXA.out.2.1.mc rfl ?_) | (refine wpList_build_nbL (.tmp 96) (.tmp 97) (.tmp 98) rfl k m rfl rfl rfl rfl ?_) | (refine wpList_store_nbmc (.tmp 100) (.tmp 99) rfl rfl D ((reC e).setIfInBounds 28 (.slice none 0 0)) y3 ⟨k, m, 3, 0, 0, 0⟩ rfl rfl HXA.out.1 (size_28 e _) HY3.out rfl ?_))
            intro w6 h6 k6
            have H6 : Hid (RenAt w6 D y3 ∧ VS w B rc k m w6 ∧ B + 5 ≤ D ∧ D + 1 ≤ w6.heap.size) := ⟨h6, HXA.out.2.1.ch k6 (fun q e => by have e' : q = D := e; have := HXA.out.2.2.1; omega) HOX.out, HXA.out.2.2.1, Nat.le_trans HXA.out.2.2.2 k6.size⟩
            clear h6 k6 HXA HY3
            obtain ⟨y, hy⟩ : ∃ y : RE, y = ⟨⟨e.n.k, m, if how = 1 then 2 else 3, 0, 0, []⟩, none, 0⟩ := ⟨_, rfl⟩
            have HYY : Hid (y = ⟨⟨e.n.k, m, if how = 1 then 2 else 3, 0, 0, []⟩, none, 0⟩) := hy
            go_upto_if 102 with fail
            go_cut [] (fun wx => Hid (RenAt wx D y ∧ VS w B rc k m wx ∧ B + 5 ≤ D ∧ D + 1 ≤ wx.heap.size))
            case first =>
              by_cases h1 : how = 1
              · have q1 : (how == 1) = true := by simpa using h1
                have c24 : w6.cell? ⟨D, 24, none⟩ = some (.int .i64 3) := by have h9 := H6.out.1.cell 24; rw [HYD.out] at h9; exact h9
                have f24 := H6.out.1.fz 24
                have kX : Ch (fun q => q = D) w6 (w6.setCell ⟨D, 24, none⟩ (.int .i64 2)) := (Ch.refl (fun q => q = D) w6).set _ _ rfl
                have HM : Hid (RenAt (w6.setCell ⟨D, 24, none⟩ (.int .i64 2)) D y ∧ VS w B rc k m (w6.setCell ⟨D, 24, none⟩ (.int .i64 2)) ∧ B + 5 ≤ D ∧ D + 1 ≤ (w6.setCell ⟨D, 24, none⟩ (.int .i64 2)).heap.size) := ⟨H6.out.1.set 24 _ (by rw [HYD.out, hy, if_pos h1]; rfl), H6.out.2.1.ch kX (fun q e => by have e' : q = D := e; have := H6.out.2.2.1; omega) HOX.out, H6.out.2.2.1, Nat.le_trans H6.out.2.2.2 kX.size⟩
                clear h1 kX hy
                go_wp2_with fail
                go_meet
                exact HM
              · have q1 : (how == 1) = false := by simpa using h1
                have HM : Hid (RenAt w6 D y ∧ VS w B rc k m w6 ∧ B + 5 ≤ D ∧ D + 1 ≤ w6.heap.size) := ⟨by have h9 := H6.out.1; rw [HYD.out] at h9; rw [hy, if_neg h1]; exact h9, H6.out.2⟩
                clear h1 hy
                go_wp2_with fail
                go_meet
                exact HM
            case rest =>
              have HXA : Hid (RenAt wc D y ∧ VS w B rc k m wc ∧ B + 5 ≤ D ∧ D + 1 ≤ wc.heap.size) := hcut
              clear hcut H6 HYD hy
              have QP : Hid _ := rput_rs (HRS.out wc HXA.out.2.1.bel) i y (by have := HN.out; omega) (by have := HN.out.2.2.1; omega) (by rw [HYY.out]; exact .inl rfl) (fun q off hq => by rw [HYY.out] at hq; cases hq)
              have cX : wc.cell? ⟨B, 5, none⟩ = some (.slice rc.la rc.n rc.lc) := HXA.out.2.1.c.cell 5
              go_wp2_with (first | (refine wpList_load_ren (.tmp 18) rfl D y rfl HXA.out.1 rfl ?_))
              refine Calls.mono QP.out ?_
              rintro r w8 ⟨va, n8, vc, rfl, p2, p3, b8⟩
              obtain ⟨rn, hrn⟩ : ∃ rn : RC, rn = ⟨rc.c, va, n8, vc⟩ := ⟨_, rfl⟩
              obtain ⟨RR, hRR⟩ : ∃ RR, RR = R.set i y := ⟨_, rfl⟩
              rw [← hrn, ← hRR] at p2
              have HRB : Hid (∀ q, RB rn RR q → RB rc R q ∨ B + 5 ≤ q) := by
                have h5 := HXA.out.2.2
                rintro q (⟨off, hq⟩ | ⟨z, hz, off, hq⟩)
                · rw [hrn] at hq
                  have := p3 q off hq
                  exact .inr (by omega)
                · rw [hRR] at hz
                  rcases List.mem_or_eq_of_mem_set hz with hz | hz
                  · exact .inl (.inr ⟨z, hz, off, hq⟩)
                  · rw [hz, HYY.out] at hq
                    cases hq
              have H8 : Hid (VS w B rc k m w8 ∧ RSt rn RR w8) := ⟨HXA.out.2.1.below b8, p2⟩
              have c6 : w8.cell? ⟨B, 5, none⟩ = some (.slice rc.la rc.n rc.lc) := H8.out.1.c.cell 5
              have f6 := H8.out.1.c.fz 5
              obtain ⟨X2, hX2⟩ : ∃ X2, X2 = w8.setCell ⟨B, 5, none⟩ (.slice va n8 vc) := ⟨_, rfl⟩
              have kX2 : Ch (fun q => q = B) w8 X2 := by rw [hX2]; exact (Ch.refl (fun q => q = B) w8).set _ _ rfl
              have HW2 : Hid (VS w B rn k m X2) := by have h9 := H8.out.1.setl HOX.out va n8 vc; rw [← hX2, ← hrn] at h9; exact h9
              have HX : Hid (RchAt X2 B rn ∧ RchAt X2 (B + 3) rcz ∧ Below w.heap.size w X2 ∧ RSt rn RR X2 ∧ Seg .i64 X2 e.la e.n.ln) := ⟨HW2.out.c, HW2.out.rc, HW2.out.bel, H8.out.2.ch kX2 (fun q hq e => rb_ne HLT.out (HRB.out q hq) (Nat.le_refl _) (by omega) e), (HRS.out X2 HW2.out.bel).its e HEM.out.2.2⟩
              have HSA : Hid (∀ q off, e.la = some ⟨q, off, none⟩ → RB rc R q) := fun q off hq => .inr ⟨e, HEM.out.2.2, off, hq⟩
              have HXE : Hid (w8.setCell ⟨B, 5, none⟩ (.slice va n8 vc) = X2) := hX2.symm
              have HRES : Hid (RLearnR rc.c R k m how RR e.n.ln 0 ∧ rn.c = rc.c) := ⟨.inr ⟨HKB.out, .inr (.inr ⟨i, e, HEM.out.1, HEM.out.2.1, .inr ⟨HDS.out, ⟨y, by rw [HYY.out], hRR⟩, rfl, rfl⟩⟩)⟩, by rw [hrn]⟩
              clear hX2 kX2 hrn hRR p2 p3 b8 QP HXA HW2 H8
              go_upto_region 23 with fail
              rw [HXE.out]
              clear HXE c6 f6 cX
              obtain rfl := HNL.out
              go_wp2_with (first | (refine wpList_load_rch (.tmp 5) rfl B rn rfl HX.out.1 rfl ?_) | (refine wpList_store_rch (.tmp 10) (.tmp 111) rfl rfl (B + 3) rcz rn rfl rfl HX.out.2.1 rfl ?_))
              intro wE hE kE
              have HE : Hid (RchAt wE (B + 3) rn ∧ Below w.heap.size w wE ∧ RSt rn RR wE ∧ Seg .i64 wE e.la e.n.ln) := ⟨hE, HX.out.2.2.1.trans (kE.below (fun q e => by have e' : q = B + 3 := e; have := HOX.out; omega) HX.out.2.2.1.size), HX.out.2.2.2.1.ch kE (fun q hq e => rb_ne HLT.out (HRB.out q hq) (by omega) (by omega) e), kE.seg HX.out.2.2.2.2 (fun x hz hx hs => by have hs' : x.block = B + 3 := hs; have h8 := HLT.out _ (HSA.out _ _ (seg_form HX.out.2.2.2.2 hz hx)); omega)⟩
              clear hE kE HX
              go_wp2_with fail
              refine bodyPost_ret (results_learn rfl _ _ (B + 3) _ rfl HE.out.1) rfl ?_
              exact ⟨rn, RR, e.la, e.lc, e.n.ln, 0, rfl, HRES.out.1, HRES.out.2, HE.out.2.2.1, HE.out.2.2.2, HSA.out, HE.out.2.1, fun q hq => (HRB.out q hq).imp id (fun g => by have := HOX.out; omega)⟩
end Go.Proofs.Ytialefdojeddjaa
