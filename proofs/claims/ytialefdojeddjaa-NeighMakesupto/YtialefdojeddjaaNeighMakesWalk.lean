/-
  NeighMakes: the walk.
-/
import Derived.Test.YtialefdojeddjaaNrKz
namespace Go.Proofs.Ytialefdojeddjaa
open Go.RowKit Go.Maps

set_option maxHeartbeats 3200000 in
set_option maxRecDepth 100000 in
theorem neighMakes.walk (w : World) (c : CF) : Calls Try.prog 9 #[.agg (cfC c)] w fun e w' => e = .returned (.bool true) ∧ Below w.heap.size w w' := by
  have hb := cfg_new w c
  have bel : Below w.heap.size w (w.alloc (.cells (cfC c) 23)) := (Below.refl _ _).alloc (Nat.le_refl _) _
  obtain ⟨CX, hC⟩ : ∃ C, C = cfC c := ⟨_, rfl⟩
  obtain ⟨W, hW⟩ : ∃ W, W = w.alloc (.cells (cfC c) 23) := ⟨_, rfl⟩
  rw [← hW] at hb bel
  obtain ⟨B, hB⟩ : ∃ B, B = w.heap.size := ⟨_, rfl⟩
  rw [← hB] at hb
  have HBX : Hid (CfgAt W B c ∧ Below w.heap.size w W) := ⟨hb, bel⟩
  rw [← hC] at hW ⊢
  have HOX : Hid (w.heap.size = B) := hB.symm
  have HWX : Hid (w.alloc (.cells CX 23) = W) := hW.symm
  clear hb hW hB hC bel
  go_enter Try.func9, Try.ntmps9
  go_upto_region 1 with fail
  rw [HOX.out, HWX.out]
  go_wp2_with fail
  refine Calls.mono (started_any W) ?_
  rintro r w1 ⟨rfl, b1⟩
  have H1 : Hid (CfgAt w1 B c ∧ Below w.heap.size w w1) := ⟨HBX.out.1.below b1, bthen HBX.out.2 b1⟩
  clear b1 HBX HWX
  go_wp2_with (first | (refine wpList_load_cfg (.tmp 1) rfl B c rfl H1.out.1 rfl ?_))
  refine Calls.mono (made_any c w1) ?_
  obtain ⟨d, hd⟩ : ∃ d, d = cfD c := ⟨_, rfl⟩
  rw [← hd]
  clear hd
  rintro r w2 ⟨t, M, rfl, hSS⟩
  have hs2 := hSS.back H1.out.2
  obtain ⟨Pb, hP⟩ : ∃ D, D = w2.heap.size := ⟨_, rfl⟩
  obtain ⟨Z, hZ⟩ : ∃ Z, Z = w2.alloc (.cells (svC none rcz) 89) := ⟨_, rfl⟩
  have bZ : Below w2.heap.size w2 Z := by rw [hZ]; exact (Below.refl _ _).alloc (Nat.le_refl _) _
  have HZ : Hid (SdvAt Z Pb none rcz ∧ SS w t M d [] ⟨d, none, 0, 0⟩ [] Z ∧ w.heap.size ≤ Pb ∧ ∀ x, SB t M [] ⟨d, none, 0, 0⟩ [] x → x < Pb) := ⟨by rw [hZ, hP]; exact sdv_new w2 none rcz, hs2.below bZ, by rw [hP]; exact hs2.l.bel.size, fun x hx => by rw [hP]; exact hs2.lt x hx⟩
  have HZE : Hid (w2.heap.size = Pb ∧ w2.alloc (.cells (svC none rcz) 89) = Z) := ⟨hP.symm, hZ.symm⟩
  clear hP hZ bZ hSS hs2
  go_wp2_with (first | (refine wpList_alloc_sdv rfl rfl ?_; rw [HZE.out.1, HZE.out.2]; simp only [Act.put, List.setIfInBounds_toArray, List.set_cons_succ, List.set_cons_zero]) | (refine wpList_store_sdv (.tmp 4) (.tmp 10) rfl rfl Pb none rcz (some ⟨t, 0, none⟩) ⟨d, none, 0, 0⟩ rfl rfl HZ.out.1 rfl ?_))
  intro w3 h3 k3
  have H3 : Hid (SdvAt w3 Pb (some ⟨t, 0, none⟩) ⟨d, none, 0, 0⟩ ∧ SS w t M d [] ⟨d, none, 0, 0⟩ [] w3) := ⟨h3, HZ.out.2.1.ch k3 (fun x hx e => by have e' : x = Pb := e; have := HZ.out.2.2.2 x hx; omega) (fun x e => by have e' : x = Pb := e; have := HZ.out.2.2.1; omega)⟩
  clear h3 k3 HZ HZE H1
  have c0 : w3.cell? ⟨Pb, 0, none⟩ = some (.pointer (some ⟨t, 0, none⟩)) := H3.out.1.cell 0
  have QA : Hid _ := H3.out.2.all
  go_wp2_with fail
  refine Calls.mono QA.out ?_
  rintro r w4 ⟨v, rfl, hN, hSS, b4⟩
  obtain ⟨va, vc, hv⟩ := hN.form
  have hv' : v = .slice va 0 vc := hv
  subst hv'
  have H4 : Hid (SdvAt w4 Pb (some ⟨t, 0, none⟩) ⟨d, none, 0, 0⟩ ∧ SS w t M d [] ⟨d, none, 0, 0⟩ [] w4) := ⟨H3.out.1.below b4, hSS⟩
  clear hN hSS b4 hv QA c0 H3
  have c0 : w4.cell? ⟨Pb, 0, none⟩ = some (.pointer (some ⟨t, 0, none⟩)) := H4.out.1.cell 0
  have QW : Hid (Calls Try.prog 20 #[.pointer (some ⟨t, 0, none⟩)] w4 fun r w' => r = .returned (.int .i64 0) ∧ SS w t M d [] ⟨d, none, 0, 0⟩ [] w' ∧ Below w4.heap.size w4 w') := H4.out.2.waiting
  go_wp2_with fail
  refine Calls.mono QW.out ?_
  rintro r w5 ⟨rfl, hSS, b5⟩
  have HE : Hid (Below w.heap.size w w5) := hSS.l.bel
  clear hSS b5 QW H4 c0
  go_wp2_with fail
  go_ret
  exact ⟨rfl, HE.out⟩
end Go.Proofs.Ytialefdojeddjaa
