/-
  Layer 14: route.order.
-/
import Derived.Test.YtdjbfhllialinaaDoorRtLe
namespace Go.Proofs.YtdjbfhllialinaaDoor.MixH
open Go.Proofs.YtdjbfhllialinaaDoor.Mix
/-- one of two may come up -/
theorem pair {P : Program} {l : List Oper} {Q : Exit → Act → World → Prop} {S : World → Prop} {F : Nat} {listed : Array Bool} {a : Act} {w : World} (fs1 fs2 : List Bool) (fuel : Nat) (i j : Nat) (o1 o2 : Oper) (ho1 : pick fs1 l = [o1]) (ho2 : pick fs2 l = [o2]) (hi : l[i]? = some o1) (hj : l[j]? = some o2) (hr : Region.ready .any l.toArray listed = [i, j]) (hF : F = fuel + 1)
    (h1 : ∀ K : Act → World → Prop, (∀ a' w', S w' → wpAnyH P .any l.toArray (only Q) S fuel (listed.setIfInBounds i true) a' w' → K a' w') → wpList P l.toArray (only fun _ => K) (pick fs1 l) a w)
    (h2 : ∀ K : Act → World → Prop, (∀ a' w', S w' → wpAnyH P .any l.toArray (only Q) S fuel (listed.setIfInBounds j true) a' w' → K a' w') → wpList P l.toArray (only fun _ => K) (pick fs2 l) a w) : wpAnyH P .any l.toArray (only Q) S F listed a w := by
  subst hF
  refine wpAnyH_all hr (by simp) fun m hm => ?_
  simp only [List.mem_cons, List.not_mem_nil, or_false] at hm
  rcases hm with rfl | rfl
  · have h0 := h1 _ (fun _ _ hs h => (⟨hs, h⟩ : _ ∧ _))
    rw [ho1] at h0
    have hi' : l.toArray[m]? = some o1 := by simpa using hi
    unfold wpOp
    simp only [hi']
    unfold wpList at h0
    split
    · rename_i hw
      rw [if_pos hw] at h0
      rcases h0 with h0 | ⟨_, h0⟩
      · exact .inl (wp_only (fun a w h => h.2) h0)
      · exact absurd h0 (no_out _)
    · rename_i hw
      rw [if_neg hw] at h0
      exact h0.2
  · have h0 := h2 _ (fun _ _ hs h => (⟨hs, h⟩ : _ ∧ _))
    rw [ho2] at h0
    have hi' : l.toArray[m]? = some o2 := by simpa using hj
    unfold wpOp
    simp only [hi']
    unfold wpList at h0
    split
    · rename_i hw
      rw [if_pos hw] at h0
      rcases h0 with h0 | ⟨_, h0⟩
      · exact .inl (wp_only (fun a w h => h.2) h0)
      · exact absurd h0 (no_out _)
    · rename_i hw
      rw [if_neg hw] at h0
      exact h0.2
end Go.Proofs.YtdjbfhllialinaaDoor.MixH
namespace Go.Proofs.YtdjbfhllialinaaDoor
open Go.RowKit Go.Maps

theorem wpList_store_pfxD {ops : Array Oper} {rest : List Oper} {o : Oper} {a : Act} {w : World} {Q : Exit → Act → World → Prop} (x y : Operand) (ho : o.op = .store 27 x y) (hd : o.dst = none) (O : Nat) (pv : PV) (pv' : PV) (hx : a.eval x = .pointer (some ⟨O, 0, none⟩)) (hy : a.eval y = .agg (pfC pv')) (hb : PfxAt w O pv)
    (hw : Region.wanted o (yielded ops a.tmps) = true) (hh : ∀ w', PfxAt w' O pv' → Ch (fun q => q = O) w w' → w'.drawn = w.drawn → wpList Tryd.prog ops Q rest a w') : wpList Tryd.prog ops Q (o :: rest) a w := by
  refine wpList_step fun K hK => ?_
  rw [if_pos hw]
  refine wp_store_row 27 x y ho O (pfC pv') hx hy _ (pfC pv) hb Tryd.size_pfx rfl (by simp [pfC, Value.oneCell']) (hK _ _ ?_)
  rw [hd]
  refine hh _ (setRow_heap w O _ _ _ _ hb) ⟨rfl, rfl, rfl, ?_, ?_⟩ rfl
  · simp [World.setRow]
  · intro k hk hne
    simp only [World.setRow]
    rw [Array.getElem?_modify, if_neg (fun e => hne e.symm)]
def ordV (a b : RV) : Int := if lessB a.p.V b.p.V a.p.x b.p.x = true then -1 else if lessB b.p.V a.p.V b.p.x a.p.x = true then 1 else if a.p.n < b.p.n then -1 else if b.p.n < a.p.n then 1 else 0
/-- two boxes of prefixes made, both written: in whatever order they were made -/
structure Two2 (w : World) (A : World) (O5 O6 : Nat) (p q : PV) : Prop where
  a : PfxAt A O5 p
  b : PfxAt A O6 q
  ne : O5 ≠ O6
  l5 : w.heap.size ≤ O5
  l6 : w.heap.size ≤ O6
set_option maxHeartbeats 6400000 in
set_option maxRecDepth 100000 in
theorem order_gr (a b : RV) (w : World) : Calls Tryd.prog 26 #[.agg (rtC a), .agg (rtC b)] w fun e w' => e = .returned (.int .i64 (ordV a b)) ∧ Gr w w' := by
  have ha := rte_new w a
  have hb := rte_new (w.alloc (.cells (rtC a) 29)) b
  rw [World.size_alloc] at hb
  have ha2 := ha.below ((Below.refl _ _).alloc (Nat.le_refl _) (.cells (rtC b) 29))
  have bel : Below w.heap.size w ((w.alloc (.cells (rtC a) 29)).alloc (.cells (rtC b) 29)) := ((Below.refl _ _).alloc (Nat.le_refl _) _).alloc (by simp) _
  obtain ⟨C1, hC1⟩ : ∃ C, C = rtC a := ⟨_, rfl⟩
  obtain ⟨C2, hC2⟩ : ∃ C, C = rtC b := ⟨_, rfl⟩
  obtain ⟨W, hW⟩ : ∃ W, W = (w.alloc (.cells (rtC a) 29)).alloc (.cells (rtC b) 29) := ⟨_, rfl⟩
  have hdr : W.drawn = w.drawn := by rw [hW]; rfl
  have hsz : W.heap.size = w.heap.size + 2 := by rw [hW]; simp
  rw [← hW] at ha2 hb bel
  obtain ⟨B, hB⟩ : ∃ B, B = w.heap.size := ⟨_, rfl⟩
  rw [← hB] at ha2 hb
  have HA : Hid (RteAt W B a ∧ RteAt W (B + 1) b ∧ Gr w W ∧ W.heap.size = B + 2) := ⟨ha2, hb, ⟨bel, by rw [hdr]; exact Nat.le_refl _⟩, by rw [hsz, hB]⟩
  rw [← hC1, ← hC2] at hW ⊢
  have HB : Hid (w.heap.size = B) := hB.symm
  have HW : Hid ((w.alloc (.cells C1 29)).alloc (.cells C2 29) = W) := hW.symm
  clear ha hb ha2 hW hB hC1 hC2 bel hdr hsz
  obtain ⟨r, hr⟩ : ∃ r, r = ordV a b := ⟨_, rfl⟩
  rw [← hr]
  have HR : Hid (ordV a b = r) := hr.symm
  clear hr
  go_enter Tryd.func26, Tryd.ntmps26
  go_upto_region 1 with fail
  rw [HB.out, HW.out]
  go_cut [5, 6] (fun p5 p6 wx => ∃ O5 O6, p5 = .pointer (some ⟨O5, 0, none⟩) ∧ p6 = .pointer (some ⟨O6, 0, none⟩) ∧ Hid (Two2 w wx O5 O6 a.p b.p ∧ Gr w wx))
  case first =>
    refine MixH.start (fun A => Gr w A ∧ RteAt A B a ∧ RteAt A (B + 1) b) (by kernel_rfl) ?_
    obtain ⟨wA, hwA⟩ : ∃ wA, wA = W.drew := ⟨_, rfl⟩
    have bdr : Below W.heap.size W wA := by rw [hwA]; exact (Below.refl _ _).drew
    have hS : Gr w wA ∧ RteAt wA B a ∧ RteAt wA (B + 1) b := ⟨HA.out.2.2.1.trans ⟨bdr, by rw [hwA]; show W.drawn ≤ W.drawn + 1; omega⟩, HA.out.1.below bdr, HA.out.2.1.below bdr⟩
    have HSA : Hid (wA.heap.size = w.heap.size + 2) := by show wA.heap.size = _; rw [hwA, HB.out]; exact HA.out.2.2.2
    rw [← hwA]
    clear hwA bdr
    refine MixH.takes [true, false, true] 6 (by kernel_rfl) (by kernel_rfl) (by decide) (by kernel_rfl) hS (fun K hK => ?_)
    simp only [Mix.pick]
    repeat (go_big_quiet_step (fail))
    refine wpQuiet_nil (hK _ ?_)
    clear hK K
    refine MixH.take 5 1 _ (.agg (pfC a.p)) rfl (by kernel_rfl) (by kernel_rfl) (by kernel_rfl) (by kernel_rfl) (yields_pfx (.tmp 7) rfl B 0 a.p rfl rfl (fun A hA => hA.2.1.pfx)) hS (fun a' ha => ?_)
    simp only [Act.put, List.setIfInBounds_toArray, List.set_cons_succ, List.set_cons_zero] at ha
    subst ha
    refine MixH.take 4 3 _ (.agg (pfC b.p)) rfl (by kernel_rfl) (by kernel_rfl) (by kernel_rfl) (by kernel_rfl) (yields_pfx (.tmp 9) rfl (B + 1) 0 b.p rfl rfl (fun A hA => hA.2.2.pfx)) hS (fun a' ha => ?_)
    simp only [Act.put, List.setIfInBounds_toArray, List.set_cons_succ, List.set_cons_zero] at ha
    subst ha
    refine MixH.pair [false, false, false, false, true] [false, false, false, false, false, true] 3 4 5 _ _ rfl rfl rfl rfl (by kernel_rfl) (by kernel_rfl) (fun K hK => ?_) (fun K hK => ?_)
    · simp only [Mix.pick]
      refine wpList_alloc_pfx rfl rfl ?_
      have bF : Below wA.heap.size wA (wA.alloc (.cells (pfC pz) 27)) := (Below.refl _ _).alloc (Nat.le_refl _) _
      have nF : PfxAt (wA.alloc (.cells (pfC pz) 27)) wA.heap.size pz := pfx_new _ _
      have sF : (wA.alloc (.cells (pfC pz) 27)).heap.size = wA.heap.size + 1 := World.size_alloc _ _
      have dF : (wA.alloc (.cells (pfC pz) 27)).drawn = wA.drawn := rfl
      obtain ⟨wF, hwF⟩ : ∃ wF, wF = wA.alloc (.cells (pfC pz) 27) := ⟨_, rfl⟩
      rw [← hwF] at bF nF sF dF ⊢
      clear hwF
      replace hS : Gr w wF ∧ RteAt wF B a ∧ RteAt wF (B + 1) b := ⟨hS.1.trans ⟨bF, Nat.le_of_eq dF.symm⟩, hS.2.1.below bF, hS.2.2.below bF⟩
      obtain ⟨OF, hOF⟩ : ∃ OF, OF = wA.heap.size := ⟨_, rfl⟩
      rw [← hOF] at nF ⊢
      have HOF : Hid (OF = wA.heap.size ∧ PfxAt wF OF pz ∧ Below wA.heap.size wA wF ∧ wF.heap.size = wA.heap.size + 1) := ⟨hOF, nF, bF, sF⟩
      clear hOF bF nF sF dF
      go_wp2_with fail
      refine ⟨rfl, hK _ _ hS ?_⟩
      clear hK K
      refine MixH.one [false, false, false, false, false, true] 2 5 _ rfl rfl (by kernel_rfl) (by kernel_rfl) (fun K hK => ?_)
      simp only [Mix.pick]
      refine wpList_alloc_pfx rfl rfl ?_
      have bG : Below wF.heap.size wF (wF.alloc (.cells (pfC pz) 27)) := (Below.refl _ _).alloc (Nat.le_refl _) _
      have nG : PfxAt (wF.alloc (.cells (pfC pz) 27)) wF.heap.size pz := pfx_new _ _
      have sG : (wF.alloc (.cells (pfC pz) 27)).heap.size = wF.heap.size + 1 := World.size_alloc _ _
      have dG : (wF.alloc (.cells (pfC pz) 27)).drawn = wF.drawn := rfl
      obtain ⟨wG, hwG⟩ : ∃ wG, wG = wF.alloc (.cells (pfC pz) 27) := ⟨_, rfl⟩
      rw [← hwG] at bG nG sG dG ⊢
      clear hwG
      replace hS : Gr w wG ∧ RteAt wG B a ∧ RteAt wG (B + 1) b := ⟨hS.1.trans ⟨bG, Nat.le_of_eq dG.symm⟩, hS.2.1.below bG, hS.2.2.below bG⟩
      obtain ⟨OG, hOG⟩ : ∃ OG, OG = wF.heap.size := ⟨_, rfl⟩
      rw [← hOG] at nG ⊢
      have HOG : Hid (OG = wF.heap.size ∧ PfxAt wG OG pz ∧ Below wF.heap.size wF wG ∧ wG.heap.size = wF.heap.size + 1) := ⟨hOG, nG, bG, sG⟩
      clear hOG bG nG sG dG
      go_wp2_with fail
      refine ⟨rfl, hK _ _ hS ?_⟩
      clear hK K
      have HPP : Hid (PfxAt wG OF pz ∧ PfxAt wG OG pz ∧ OF ≠ OG ∧ w.heap.size + 2 ≤ OF ∧ w.heap.size + 2 ≤ OG) := by
        have h1 := HOF.out
        have h2 := HOG.out
        have h3 := HSA.out
        exact ⟨h1.2.1.below h2.2.2.1, h2.2.1, by omega, by omega, by omega⟩
      refine MixH.one [false, false, false, false, false, false, true] 1 6 _ rfl rfl (by kernel_rfl) (by kernel_rfl) (fun K hK => ?_)
      simp only [Mix.pick]
      refine wpList_store_pfxD (.tmp 5) (.tmp 8) rfl rfl OF pz a.p rfl rfl HPP.out.1 rfl ?_
      intro wH hwH kwH dwH
      have gwH : Gr w wH := ⟨hS.1.1.trans (kwH.below (fun q e => by have e' : q = OF := e; have := HPP.out; omega) hS.1.1.size), by rw [dwH]; exact hS.1.2⟩
      replace hS : Gr w wH ∧ RteAt wH B a ∧ RteAt wH (B + 1) b := ⟨gwH, hS.2.1.ch kwH (by have := HPP.out; have := HB.out; omega), hS.2.2.ch kwH (by have := HPP.out; have := HB.out; omega)⟩
      have HwH : Hid (PfxAt wH OF a.p ∧ Ch (fun q => q = OF) wG wH) := ⟨hwH, kwH⟩
      clear hwH kwH dwH gwH
      go_wp2_with fail
      refine ⟨rfl, hK _ _ hS ?_⟩
      clear hK K
      have HX6 : Hid (PfxAt wH OG pz) := HPP.out.2.1.ch HwH.out.2 (by have := HPP.out; omega)
      refine MixH.one [false, false, false, false, false, false, false, true] 0 7 _ rfl rfl (by kernel_rfl) (by kernel_rfl) (fun K hK => ?_)
      simp only [Mix.pick]
      refine wpList_store_pfxD (.tmp 6) (.tmp 10) rfl rfl OG pz b.p rfl rfl HX6.out rfl ?_
      intro wI hwI kwI dwI
      have gwI : Gr w wI := ⟨hS.1.1.trans (kwI.below (fun q e => by have e' : q = OG := e; have := HPP.out; omega) hS.1.1.size), by rw [dwI]; exact hS.1.2⟩
      replace hS : Gr w wI ∧ RteAt wI B a ∧ RteAt wI (B + 1) b := ⟨gwI, hS.2.1.ch kwI (by have := HPP.out; have := HB.out; omega), hS.2.2.ch kwI (by have := HPP.out; have := HB.out; omega)⟩
      have HwI : Hid (PfxAt wI OG b.p ∧ Ch (fun q => q = OG) wH wI) := ⟨hwI, kwI⟩
      clear hwI kwI dwI gwI
      go_wp2_with fail
      refine ⟨rfl, hK _ _ hS ?_⟩
      clear hK K
      refine MixH.done (by kernel_rfl) ?_
      have HEND : Hid (Two2 w wI OF OG a.p b.p ∧ Gr w wI) := ⟨⟨HwH.out.1.ch HwI.out.2 (by have := HPP.out; omega), HwI.out.1, by have := HPP.out; omega, by have := HPP.out; omega, by have := HPP.out; omega⟩, hS.1⟩
      clear hS
      go_wp2_with fail
      go_meet
      exact ⟨OF, OG, rfl, rfl, HEND⟩
    · simp only [Mix.pick]
      refine wpList_alloc_pfx rfl rfl ?_
      have bF : Below wA.heap.size wA (wA.alloc (.cells (pfC pz) 27)) := (Below.refl _ _).alloc (Nat.le_refl _) _
      have nF : PfxAt (wA.alloc (.cells (pfC pz) 27)) wA.heap.size pz := pfx_new _ _
      have sF : (wA.alloc (.cells (pfC pz) 27)).heap.size = wA.heap.size + 1 := World.size_alloc _ _
      have dF : (wA.alloc (.cells (pfC pz) 27)).drawn = wA.drawn := rfl
      obtain ⟨wF, hwF⟩ : ∃ wF, wF = wA.alloc (.cells (pfC pz) 27) := ⟨_, rfl⟩
      rw [← hwF] at bF nF sF dF ⊢
      clear hwF
      replace hS : Gr w wF ∧ RteAt wF B a ∧ RteAt wF (B + 1) b := ⟨hS.1.trans ⟨bF, Nat.le_of_eq dF.symm⟩, hS.2.1.below bF, hS.2.2.below bF⟩
      obtain ⟨OF, hOF⟩ : ∃ OF, OF = wA.heap.size := ⟨_, rfl⟩
      rw [← hOF] at nF ⊢
      have HOF : Hid (OF = wA.heap.size ∧ PfxAt wF OF pz ∧ Below wA.heap.size wA wF ∧ wF.heap.size = wA.heap.size + 1) := ⟨hOF, nF, bF, sF⟩
      clear hOF bF nF sF dF
      go_wp2_with fail
      refine ⟨rfl, hK _ _ hS ?_⟩
      clear hK K
      refine MixH.one [false, false, false, false, true] 2 4 _ rfl rfl (by kernel_rfl) (by kernel_rfl) (fun K hK => ?_)
      simp only [Mix.pick]
      refine wpList_alloc_pfx rfl rfl ?_
      have bG : Below wF.heap.size wF (wF.alloc (.cells (pfC pz) 27)) := (Below.refl _ _).alloc (Nat.le_refl _) _
      have nG : PfxAt (wF.alloc (.cells (pfC pz) 27)) wF.heap.size pz := pfx_new _ _
      have sG : (wF.alloc (.cells (pfC pz) 27)).heap.size = wF.heap.size + 1 := World.size_alloc _ _
      have dG : (wF.alloc (.cells (pfC pz) 27)).drawn = wF.drawn := rfl
      obtain ⟨wG, hwG⟩ : ∃ wG, wG = wF.alloc (.cells (pfC pz) 27) := ⟨_, rfl⟩
      rw [← hwG] at bG nG sG dG ⊢
      clear hwG
      replace hS : Gr w wG ∧ RteAt wG B a ∧ RteAt wG (B + 1) b := ⟨hS.1.trans ⟨bG, Nat.le_of_eq dG.symm⟩, hS.2.1.below bG, hS.2.2.below bG⟩
      obtain ⟨OG, hOG⟩ : ∃ OG, OG = wF.heap.size := ⟨_, rfl⟩
      rw [← hOG] at nG ⊢
      have HOG : Hid (OG = wF.heap.size ∧ PfxAt wG OG pz ∧ Below wF.heap.size wF wG ∧ wG.heap.size = wF.heap.size + 1) := ⟨hOG, nG, bG, sG⟩
      clear hOG bG nG sG dG
      go_wp2_with fail
      refine ⟨rfl, hK _ _ hS ?_⟩
      clear hK K
      have HPP : Hid (PfxAt wG OF pz ∧ PfxAt wG OG pz ∧ OF ≠ OG ∧ w.heap.size + 2 ≤ OF ∧ w.heap.size + 2 ≤ OG) := by
        have h1 := HOF.out
        have h2 := HOG.out
        have h3 := HSA.out
        exact ⟨h1.2.1.below h2.2.2.1, h2.2.1, by omega, by omega, by omega⟩
      refine MixH.one [false, false, false, false, false, false, true] 1 6 _ rfl rfl (by kernel_rfl) (by kernel_rfl) (fun K hK => ?_)
      simp only [Mix.pick]
      refine wpList_store_pfxD (.tmp 5) (.tmp 8) rfl rfl OG pz a.p rfl rfl HPP.out.2.1 rfl ?_
      intro wH hwH kwH dwH
      have gwH : Gr w wH := ⟨hS.1.1.trans (kwH.below (fun q e => by have e' : q = OG := e; have := HPP.out; omega) hS.1.1.size), by rw [dwH]; exact hS.1.2⟩
      replace hS : Gr w wH ∧ RteAt wH B a ∧ RteAt wH (B + 1) b := ⟨gwH, hS.2.1.ch kwH (by have := HPP.out; have := HB.out; omega), hS.2.2.ch kwH (by have := HPP.out; have := HB.out; omega)⟩
      have HwH : Hid (PfxAt wH OG a.p ∧ Ch (fun q => q = OG) wG wH) := ⟨hwH, kwH⟩
      clear hwH kwH dwH gwH
      go_wp2_with fail
      refine ⟨rfl, hK _ _ hS ?_⟩
      clear hK K
      have HX6 : Hid (PfxAt wH OF pz) := HPP.out.1.ch HwH.out.2 (by have := HPP.out; omega)
      refine MixH.one [false, false, false, false, false, false, false, true] 0 7 _ rfl rfl (by kernel_rfl) (by kernel_rfl) (fun K hK => ?_)
      simp only [Mix.pick]
      refine wpList_store_pfxD (.tmp 6) (.tmp 10) rfl rfl OF pz b.p rfl rfl HX6.out rfl ?_
      intro wI hwI kwI dwI
      have gwI : Gr w wI := ⟨hS.1.1.trans (kwI.below (fun q e => by have e' : q = OF := e; have := HPP.out; omega) hS.1.1.size), by rw [dwI]; exact hS.1.2⟩
      replace hS : Gr w wI ∧ RteAt wI B a ∧ RteAt wI (B + 1) b := ⟨gwI, hS.2.1.ch kwI (by have := HPP.out; have := HB.out; omega), hS.2.2.ch kwI (by have := HPP.out; have := HB.out; omega)⟩
      have HwI : Hid (PfxAt wI OF b.p ∧ Ch (fun q => q = OF) wH wI) := ⟨hwI, kwI⟩
      clear hwI kwI dwI gwI
      go_wp2_with fail
      refine ⟨rfl, hK _ _ hS ?_⟩
      clear hK K
      refine MixH.done (by kernel_rfl) ?_
      have HEND : Hid (Two2 w wI OG OF a.p b.p ∧ Gr w wI) := ⟨⟨HwH.out.1.ch HwI.out.2 (by have := HPP.out; omega), HwI.out.1, by have := HPP.out; omega, by have := HPP.out; omega, by have := HPP.out; omega⟩, hS.1⟩
      clear hS
      go_wp2_with fail
      go_meet
      exact ⟨OG, OF, rfl, rfl, HEND⟩
  case rest =>
    obtain ⟨O5, O6, rfl, rfl, HT⟩ := hcut
    have Q1 : Hid _ := less_gr a.p.V b.p.V a.p.x b.p.x wc
    obtain ⟨l1, hl1⟩ : ∃ l1, l1 = lessB a.p.V b.p.V a.p.x b.p.x := ⟨_, rfl⟩
    rw [← hl1] at Q1
    have HL1 : Hid (lessB a.p.V b.p.V a.p.x b.p.x = l1) := hl1.symm
    obtain ⟨l2, hl2⟩ : ∃ l2, l2 = lessB b.p.V a.p.V b.p.x a.p.x := ⟨_, rfl⟩
    have HL2 : Hid (lessB b.p.V a.p.V b.p.x a.p.x = l2) := hl2.symm
    clear hl1 hl2
    go_wp2_with (first | (refine wpList_mid_ipr (.tmp 11) rfl O5 0 a.p.V a.p.x rfl HT.out.1.a.ip rfl ?_) | (refine wpList_mid_ipr (.tmp 13) rfl O6 0 b.p.V b.p.x rfl HT.out.1.b.ip rfl ?_))
    refine Calls.mono Q1.out ?_
    rintro e x1 ⟨rfl, g1⟩
    have H1 : Hid (PfxAt x1 O5 a.p ∧ PfxAt x1 O6 b.p ∧ Gr w x1) := ⟨HT.out.1.a.below g1.1, HT.out.1.b.below g1.1, HT.out.2.trans g1⟩
    clear Q1 g1 HT
    cases l1 with
    | true =>
      have HE : Hid (r = -1) := by show r = -1; rw [← HR.out]; unfold ordV; rw [if_pos HL1.out]
      go_wp2_with fail
      go_ret
      exact ⟨by rw [HE.out]; rfl, H1.out.2.2⟩
    | false =>
      have Q2 : Hid _ := less_gr b.p.V a.p.V b.p.x a.p.x x1
      rw [HL2.out] at Q2
      go_wp2_with (first | (refine wpList_mid_ipr (.tmp 16) rfl O6 0 b.p.V b.p.x rfl H1.out.2.1.ip rfl ?_) | (refine wpList_mid_ipr (.tmp 18) rfl O5 0 a.p.V a.p.x rfl H1.out.1.ip rfl ?_))
      refine Calls.mono Q2.out ?_
      rintro e x2 ⟨rfl, g2⟩
      have H2 : Hid (PfxAt x2 O5 a.p ∧ PfxAt x2 O6 b.p ∧ Gr w x2) := ⟨H1.out.1.below g2.1, H1.out.2.1.below g2.1, H1.out.2.2.trans g2⟩
      clear Q2 g2 H1
      cases l2 with
      | true =>
        have HE : Hid (r = 1) := by show r = 1; rw [← HR.out]; unfold ordV; rw [if_neg (by rw [HL1.out]; decide), if_pos HL2.out]
        go_wp2_with fail
        go_ret
        exact ⟨by rw [HE.out]; rfl, H2.out.2.2⟩
      | false =>
        have c1 := H2.out.1.cn
        have c2 := H2.out.2.1.cn
        have Q3 : Hid _ := cmpI_any a.p.n b.p.n x2
        have HE : Hid ((if a.p.n < b.p.n then -1 else if b.p.n < a.p.n then 1 else 0) = r) := by show _ = r; rw [← HR.out]; unfold ordV; rw [HL1.out, HL2.out, if_neg Bool.false_ne_true, if_neg Bool.false_ne_true]
        rw [HE.out] at Q3
        go_wp2_with fail
        refine Calls.mono Q3.out ?_
        rintro e x3 ⟨rfl, rfl⟩
        clear Q3 c1 c2
        go_wp2_with fail
        go_ret
        exact ⟨rfl, H2.out.2.2⟩
end Go.Proofs.YtdjbfhllialinaaDoor
