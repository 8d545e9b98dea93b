/-
  Layer 14: Matches: the routes of the address's prefixes, from the longest on.
-/
import Derived.Test.YtkfoadapakdmmaaDoorRtI2
namespace Go.Proofs.YtkfoadapakdmmaaDoor
open Go.RowKit Go.Maps Go.Shelf
attribute [local go_sem] Oper.semAt_some

theorem RL.form {w : World} {base : Nat} {v : Value} {L : List RV} (h : RL w base v L) : ∃ va vc, v = .slice va L.length vc := by
  rcases h.2 with ⟨rfl, h0⟩ | ⟨g, cap, cur, rfl, _⟩
  · exact ⟨none, 0, by rw [h0]⟩
  · exact ⟨_, _, rfl⟩
theorem RL.cells {w : World} {base : Nat} {v : Value} {L : List RV} (h : RL w base v L) : ∀ g, v.ownBlock = some g → base ≤ g ∧ g < w.heap.size ∧ ∃ o : Obj, w.heap[g]? = some o ∧ o.isCells = true := by
  intro g hg
  rcases h.2 with ⟨rfl, h0⟩ | ⟨g', cap, cur, rfl, hb, hh, _⟩
  · simp [Value.ownBlock] at hg
  · simp [Value.ownBlock] at hg
    subst hg
    exact ⟨hb, (Array.getElem?_eq_some_iff.1 hh).1, _, hh, rfl⟩
theorem RL.mono {w : World} {b b' : Nat} {v : Value} {L : List RV} (h : RL w b v L) (hb : b' ≤ b) : RL w b' v L := by
  refine ⟨h.1, ?_⟩
  rcases h.2 with h2 | ⟨g, cap, cur, rfl, hg, r⟩
  · exact .inl h2
  · exact .inr ⟨g, cap, cur, rfl, Nat.le_trans hb hg, r⟩
structure MP (w : World) (t M : Nat) (D : DataW Value) (R : List RV) (B O5 Lo : Nat) (L : List RV) (v : Value) (W : World) : Prop where
  tab : TabAt W t M D R
  ct : W.cell? ⟨B, 0, none⟩ = some (.pointer (some ⟨t, 0, none⟩))
  cl : W.cell? ⟨O5, 0, none⟩ = some v
  fb : W.frozen? ⟨O5, 0, none⟩ = false
  li : RL W Lo v L
  bel : Below w.heap.size w W
theorem MP.ch {w : World} {t M : Nat} {D : DataW Value} {R : List RV} {B O5 Lo : Nat} {L : List RV} {v : Value} {W W' : World} {S : Nat → Prop} (h : MP w t M D R B O5 Lo L v W) (k : Ch S W W') (hS : ∀ q, S q → Lo ≤ q) (hL : t < Lo ∧ M < Lo ∧ B < Lo ∧ O5 < Lo ∧ w.heap.size ≤ Lo) (hC : ∀ q, S q → ∀ o : Obj, W.heap[q]? = some o → o.isCells = false) : MP w t M D R B O5 Lo L v W' := by
  have no : ∀ q, q < Lo → ¬ S q := fun q hq hs => by have := hS q hs; omega
  refine ⟨h.tab.ch k (no _ hL.1) (no _ hL.2.1), k.cell h.ct (no B (by omega)), k.cell h.cl (no O5 (by omega)), (k.frozen (p := ⟨O5, 0, none⟩) (World.block_lt_of_cell? W _ h.cl) (no O5 (by omega))).trans h.fb, h.li.ch k (fun g hg hs => ?_), h.bel.trans (k.below (fun q hq => by have := hS q hq; omega) h.bel.size)⟩
  obtain ⟨_, _, o, h1, h2⟩ := h.li.cells g hg
  rw [hC g hs o h1] at h2
  cases h2
theorem MP.below {w : World} {t M : Nat} {D : DataW Value} {R : List RV} {B O5 Lo : Nat} {L : List RV} {v : Value} {W W' : World} (h : MP w t M D R B O5 Lo L v W) (b : Below W.heap.size W W') (hL : t < Lo ∧ M < Lo ∧ B < Lo ∧ O5 < Lo ∧ w.heap.size ≤ Lo) : MP w t M D R B O5 Lo L v W' := h.ch (Ch.ofBelow (S := fun _ => False) b) (fun _ h => h.elim) hL (fun _ h => h.elim)
theorem cnP_le (V : Int) (x : Nat → Nat) : cnP V x ≤ 129 := by
  unfold cnP
  have := bitV_le V
  split <;> omega
def mIP (R : List RV) (V : Int) (x : Nat → Nat) : List RV := ((List.range (cnP V x)).map (elP V x)).filterMap (fnd R)
theorem mIP_eq {R : List RV} {V : Int} {x : Nat → Nat} {hv : (Lit.int .i64 V).wf = true} {hx : ∀ i, i < 16 → x i < 256} : (uptoW V x hv hx (cnP V x)).filterMap (fun p => fnd R p.1) = mIP R V x := by
  unfold mIP uptoW
  rw [List.filterMap_map, List.filterMap_map]
  rfl
theorem fm_len (R : List RV) (pre : List PW) : (pre.filterMap (fun p => fnd R p.1)).length ≤ pre.length := List.length_filterMap_le _ _
theorem fm_none {R : List RV} {pre : List PW} {p : PW} (h : fnd R p.1 = none) : (pre ++ [p]).filterMap (fun p => fnd R p.1) = pre.filterMap (fun p => fnd R p.1) := by simp [List.filterMap_append, h]
theorem fm_some {R : List RV} {pre : List PW} {p : PW} {r : RV} (h : fnd R p.1 = some r) : (pre ++ [p]).filterMap (fun p => fnd R p.1) = pre.filterMap (fun p => fnd R p.1) ++ [r] := by simp [List.filterMap_append, h]
set_option maxRecDepth 100000 in
set_option maxHeartbeats 6400000 in
theorem matches_any (t M : Nat) (D : DataW Value) (R : List RV) (V : Int) (x : Nat → Nat) (w : World) (h : TabAt w t M D R) (hv : (Lit.int .i64 V).wf = true) (hx : ∀ i, i < 16 → x i < 256) :
    Calls Tryd.prog 18 #[.pointer (some ⟨t, 0, none⟩), .agg (ipCells V x)] w fun e w' => ∃ v, e = .returned v ∧ RL w' w.heap.size v (mIP R V x) ∧ Below w.heap.size w w' := by
  refine (callsIn_wide (n := 3)).1 ?_
  obtain ⟨B, hB⟩ : ∃ B, B = w.heap.size := ⟨_, rfl⟩
  obtain ⟨C, hC⟩ : ∃ C, C = ipCells V x := ⟨_, rfl⟩
  obtain ⟨W, hW⟩ : ∃ W, W = ((w.alloc (.cells #[.pointer (some ⟨t, 0, none⟩)] 22)).alloc (.cells C 28)).alloc (.cells #[.slice none 0 0] 39) := ⟨_, rfl⟩
  have bel : Below w.heap.size w W := by rw [hW]; exact (((Below.refl _ _).alloc (Nat.le_refl _) _).alloc (by simp) _).alloc (by simp; omega) _
  have hsz : W.heap.size = B + 3 := by rw [hW, hB]; simp
  have hIP : IprAt W (B + 1) V x := by
    have h1 := ipr_new (w.alloc (.cells #[.pointer (some ⟨t, 0, none⟩)] 22)) V x
    rw [World.size_alloc] at h1
    have h2 := (h1.below ((Below.refl _ _).alloc (Nat.le_refl _) (.cells #[.slice none 0 0] 39)))
    rw [hW, hB, hC]
    exact h2
  have hFP : MP w t M D R B (B + 1 + 1) (B + 4) [] (.slice none 0 0) W := by
    have e1 := cellOne ((w.alloc (.cells #[.pointer (some ⟨t, 0, none⟩)] 22)).alloc (.cells C 28)) (.slice none 0 0) 39
    simp only [World.size_alloc] at e1
    refine ⟨h.below bel, ?_, by rw [hW, hB]; exact e1.1, by rw [hW, hB]; exact e1.2, RL.nil _ _, bel⟩
    have e2 := cellOne w (.pointer (some ⟨t, 0, none⟩)) 22
    rw [hW, hB]
    exact cellUp _ (cellUp _ e2.1)
  have HTL : Hid (t < w.heap.size ∧ M < w.heap.size) := h.lt
  have HW : Hid (((w.alloc (.cells #[.pointer (some ⟨t, 0, none⟩)] 22)).alloc (.cells C 28)).alloc (.cells #[.slice none 0 0] 39) = W ∧ w.heap.size = B) := ⟨hW.symm, hB.symm⟩
  have HIP : Hid (IprAt W (B + 1) V x) := hIP
  have HFP : Hid (MP w t M D R B (B + 1 + 1) (B + 4) [] (.slice none 0 0) W) := hFP
  have HSZ : Hid (W.heap.size = B + 3) := hsz
  have QP : Hid _ := prefixes_any V x W
  rw [← hC]
  clear hB hC hW bel hsz hIP hFP h
  refine callsIn_of_wp_marks Tryd.func18 rfl trivial ?_ rfl
  simp only [Tryd.ntmps18, List.size_toArray, List.length_cons, List.length_nil, Nat.reduceAdd, Nat.reduceSub, Array.replicate_succ, Array.replicate_zero, List.push_toArray, List.append_toArray, List.nil_append, List.cons_append]
  gi_wp2_with (first | (refine wpListIn_load_ipr (.tmp 3) rfl (w.heap.size + 1) V x rfl (by have h := HIP.out; rw [← HW.out.1, ← HW.out.2] at h; exact h) rfl ?_))
  rw [HW.out.1, HW.out.2]
  refine ⟨trivial, CallsIn.mono (callsIn_wide.2 QP.out) ?_⟩
  rintro e w1 ⟨rfl, hw1⟩
  have b1 : Below W.heap.size W w1 := by rw [hw1]; exact (Below.refl _ _).alloc (Nat.le_refl _) _
  have i1 : IprAt w1 W.heap.size V x := by rw [hw1]; exact ipr_new W V x
  have s1 : w1.heap.size = B + 4 := by rw [hw1, World.size_alloc, HSZ.out]
  obtain ⟨O5, hO5⟩ : ∃ O5, O5 = B + 1 + 1 := ⟨_, rfl⟩
  obtain ⟨Lo, hLo⟩ : ∃ Lo, Lo = B + 4 := ⟨_, rfl⟩
  rw [← hO5, ← hLo] at HFP
  rw [← hO5]
  have HLL : Hid (t < Lo ∧ M < Lo ∧ B < Lo ∧ O5 < Lo ∧ w.heap.size ≤ Lo) := by have := HTL.out; have := HW.out.2; show _ ∧ _ ∧ _ ∧ _ ∧ _; omega
  have HF1 : Hid (MP w t M D R B O5 Lo [] (.slice none 0 0) w1) := HFP.out.below b1 HLL.out
  have HI1 : Hid (IprAt w1 W.heap.size V x ∧ W.heap.size < w1.heap.size ∧ w1.heap.size = Lo ∧ O5 < W.heap.size) := ⟨i1, by rw [s1, HSZ.out]; omega, by omega, by rw [HSZ.out]; omega⟩
  obtain ⟨Bi, hBi⟩ : ∃ Bi, Bi = W.heap.size := ⟨_, rfl⟩
  rw [← hBi] at HI1 ⊢
  have HTO : Hid (¬ t = O5 ∧ ¬ M = O5 ∧ ¬ B = O5 ∧ w.heap.size ≤ O5) := by have := HTL.out; have := HW.out.2; show _ ∧ _; omega
  clear QP hw1 b1 i1 s1 HIP HFP hBi HSZ hO5 hLo
  gi_wp2
  refine wpIn_rangeFunc_ownH rfl (by decide) (gf := 46) (lb := #[.pointer (some ⟨Bi, 0, none⟩)]) rfl trivial (enters_of Tryd.func46 (by kernel_rfl) rfl)
    (prefixes_stopsK _ Bi w1.heap.size V x hv hx w1 HI1.out.2.1 (Nat.le_refl _) HI1.out.1) KB.tr (KB.put HI1.out.2.1) (Below.refl _ _) (fun _ => rfl)
    (fun pre A => ∃ v, MP w t M D R B O5 Lo (pre.filterMap (fun p => fnd R p.1)) v A ∧ w1.heap.size ≤ A.heap.size)
    (fun _ _ _ => False)
    (fun s A A' row hs hg hr => by
      obtain ⟨v, h1, h2⟩ := hs
      refine ⟨v, h1.ch (Ch.ofGrown hg) (fun q e => by rw [← HI1.out.2.2.1]; exact (hr q e).1) HLL.out (fun q e o ho => ?_), Nat.le_trans h2 (Ch.ofGrown hg).size⟩
      obtain ⟨_, o', ho', hc⟩ := hr q e
      rw [ho] at ho'
      cases ho'
      exact hc)
    (fun c s A A' row hs hg hr => hs.elim)
    ⟨_, HF1.out, Nat.le_refl _⟩
    (fun p a' A => ∃ Bx, w1.heap.size ≤ Bx ∧ PfxAt A Bx p.1 ∧ a' = { tmps := #[.pointer (some ⟨t, 0, none⟩), .agg C, .pointer (some ⟨B, 0, none⟩), .pointer (some ⟨B + 1, 0, none⟩), .slice none 0 0, .pointer (some ⟨O5, 0, none⟩), .pointer (some ⟨Bx, 0, none⟩), undef, undef, .agg (ipCells V x), .func (.func 46) #[] #[.pointer (some ⟨Bi, 0, none⟩)], .agg (pfC p.1), undef, undef, undef, undef, undef, undef, undef, undef, undef, undef, undef, undef, undef, undef, undef], defers := [] })
    (fun p a' _ A A' row hs hg hr => by
      obtain ⟨Bx, h1, h2, h3⟩ := hs
      refine ⟨Bx, h1, h2.ch (Ch.ofGrown hg) (fun e => ?_), h3⟩
      obtain ⟨_, o, ho, hc⟩ := hr Bx e
      unfold PfxAt at h2
      rw [h2] at ho
      cases ho
      cases hc)
    ?assign ?body ?done ?stop
  case assign =>
    intro l pre p A K hi hK
    rw [fold_one]
    simp only [List.setIfInBounds_toArray, List.set_cons_succ, List.set_cons_zero]
    refine regIn (by kernel_rfl) ?_
    refine wpList_alloc_pfx rfl rfl ?_
    refine wpList_store_pfx (.tmp 6) (.tmp 11) rfl rfl A.heap.size pz p.1 rfl rfl (pfx_new A pz) rfl ?_
    intro A' hR k
    have bz : Below A.heap.size A (A.alloc (.cells (pfC pz) 30)) := (Below.refl _ _).alloc (Nat.le_refl _) _
    have b : Below A.heap.size A A' := bz.trans (k.below (fun q e => by have e' : q = A.heap.size := e; omega) bz.size)
    obtain ⟨v, h1, hle⟩ := hi
    refine ⟨rfl, hK _ _ (kf_below b) (KB.ch (Ch.ofBelow (S := fun _ => False) b) (by have := HI1.out.2.1; omega) (fun h => h)) ⟨v, h1.below b HLL.out, Nat.le_trans hle b.size⟩ ⟨A.heap.size, hle, hR, rfl⟩⟩
  case body =>
    rintro l pre p a' W hl ⟨rc, hrc⟩ ⟨v, hMP, hAs⟩ ⟨Bx, hBx, hPx, rfl⟩ hlen
    obtain ⟨kl, hkl⟩ := kv_key p.1 p.2
    obtain ⟨L, hL⟩ : ∃ L, L = pre.filterMap (fun p => fnd R p.1) := ⟨_, rfl⟩
    rw [← hL] at hMP
    have HK : Hid (keyOf Tryd.prog 30 (.agg (pfC p.1)) = some kl) := hkl
    have HP : Hid (MP w t M D R B O5 Lo L v W ∧ PfxAt W Bx p.1) := ⟨hMP, hPx⟩
    have HLE : Hid (w1.heap.size ≤ W.heap.size) := hAs
    have HL : Hid (pre.filterMap (fun p => fnd R p.1) = L ∧ L.length ≤ 100000) := ⟨hL.symm, by have h1 := fm_len R pre; rw [← hL] at h1; have h2 := cnP_le V x; omega⟩
    obtain ⟨va, vc, hvf⟩ := hMP.li.form
    subst hvf
    clear hkl hMP hPx hlen hrc hAs hL
    refine wpIn_block ?_
    refine wpIn_seq ?_
    refine startIn (fun A => MP w t M D R B O5 Lo L (.slice va L.length vc) A ∧ PfxAt A Bx p.1) (by kernel_rfl) (by kernel_rfl) ?_
    obtain ⟨wA, hwA⟩ : ∃ wA, wA = W.drew := ⟨_, rfl⟩
    have bdr : Below W.heap.size W wA := by rw [hwA]; exact (Below.refl _ _).drew
    have hS : MP w t M D R B O5 Lo L (.slice va L.length vc) wA ∧ PfxAt wA Bx p.1 := ⟨HP.out.1.below bdr HLL.out, HP.out.2.below bdr⟩
    have hFA : Hid (MP w t M D R B O5 Lo L (.slice va L.length vc) wA ∧ PfxAt wA Bx p.1) := hS
    rw [← hwA]
    clear hwA
    refine MixH.take 11 0 _ (.pointer (some ⟨t, 0, none⟩)) rfl (by kernel_rfl) (by kernel_rfl) (by kernel_rfl) (by kernel_rfl) (yields_ptr (.tmp 2) rfl ⟨B, 0, none⟩ (.pointer (some ⟨t, 0, none⟩)) rfl rfl (fun A hA => hA.1.ct)) hS (fun a' ha => ?_)
    simp only [Act.put, List.setIfInBounds_toArray, List.set_cons_succ, List.set_cons_zero] at ha
    subst ha
    refine MixH.takes [false, true, true] 9 (by kernel_rfl) (by kernel_rfl) (by decide) (by kernel_rfl) hS (fun K hK => ?_)
    simp only [Mix.pick]
    repeat (go_big_quiet_step (fail))
    refine wpQuiet_nil (hK _ ?_)
    clear hK K
    refine MixH.take 8 3 _ (.map (some M)) rfl (by kernel_rfl) (by kernel_rfl) (by kernel_rfl) (by kernel_rfl) (yields_map (.tmp 15) rfl ⟨t, 0, none⟩ (.map (some M)) rfl rfl (fun A hA => hA.1.tab.c)) hS (fun a' ha => ?_)
    simp only [Act.put, List.setIfInBounds_toArray, List.set_cons_succ, List.set_cons_zero] at ha
    subst ha
    refine MixH.take 7 4 _ (.agg (pfC p.1)) rfl (by kernel_rfl) (by kernel_rfl) (by kernel_rfl) (by kernel_rfl) (yields_pfx (.tmp 6) rfl Bx 0 p.1 rfl rfl (fun A hA => hA.2.all)) hS (fun a' ha => ?_)
    simp only [Act.put, List.setIfInBounds_toArray, List.set_cons_succ, List.set_cons_zero] at ha
    subst ha
    refine MixH.take 6 5 _ (lookV R p.1) rfl (by kernel_rfl) (by kernel_rfl) (by kernel_rfl) (by kernel_rfl) (yields_lookr (.tmp 16) (.tmp 17) rfl t M D R p.1 kl rfl rfl HK.out rfl (fun A hA => hA.1.tab)) hS (fun a' ha => ?_)
    simp only [Act.put, List.setIfInBounds_toArray, List.set_cons_succ, List.set_cons_zero] at ha
    subst ha
    simp only [lookV]
    refine MixH.takes [false, false, false, false, false, false, true, true, true] 3 (by kernel_rfl) (by kernel_rfl) (by decide) (by kernel_rfl) hS (fun K hK => ?_)
    simp only [Mix.pick]
    repeat (go_big_quiet_step (fail))
    refine wpQuiet_nil (hK _ ?_)
    clear hK K
    refine MixH.one [false, false, false, false, false, false, false, false, false, true] 2 9 _ rfl rfl (by kernel_rfl) (by kernel_rfl) (fun K hK => ?_)
    simp only [Mix.pick]
    refine wpList_alloc_rte rfl rfl ?_
    have bq : Below wA.heap.size wA (wA.alloc (.cells (rtC rz) 32)) := (Below.refl _ _).alloc (Nat.le_refl _) _
    have HQ := rte_new wA rz
    replace hS : MP w t M D R B O5 Lo L (.slice va L.length vc) (wA.alloc (.cells (rtC rz) 32)) ∧ PfxAt (wA.alloc (.cells (rtC rz) 32)) Bx p.1 := ⟨hS.1.below bq HLL.out, hS.2.below bq⟩
    have HBQ : Hid (Below wA.heap.size wA (wA.alloc (.cells (rtC rz) 32))) := bq
    clear bq
    go_wp2
    refine ⟨rfl, hK _ _ hS ?_⟩
    clear hK K
    refine MixH.one [false, false, false, false, false, false, false, false, false, false, true] 1 10 _ rfl rfl (by kernel_rfl) (by kernel_rfl) (fun K hK => ?_)
    simp only [Mix.pick]
    refine wpList_store_rte (.tmp 7) (.tmp 19) rfl rfl wA.heap.size rz ((fnd R p.1).getD rz) rfl rfl HQ rfl ?_
    intro wE hRE kE
    have bE : Below wA.heap.size wA wE := HBQ.out.trans (kE.below (fun q e => by have e' : q = wA.heap.size := e; omega) HBQ.out.size)
    replace hS : MP w t M D R B O5 Lo L (.slice va L.length vc) wE ∧ PfxAt wE Bx p.1 := ⟨hFA.out.1.below bE HLL.out, hFA.out.2.below bE⟩
    have HEND : Hid (MP w t M D R B O5 Lo L (.slice va L.length vc) wE ∧ Below W.heap.size W wE ∧ RteAt wE wA.heap.size ((fnd R p.1).getD rz)) := ⟨hS.1, bthen bdr bE, hRE⟩
    clear hRE kE HQ bE HBQ
    go_wp2
    refine ⟨rfl, hK _ _ hS ?_⟩
    clear hK K
    refine MixH.takes [false, false, false, false, false, false, false, false, false, false, false, true] 0 (by kernel_rfl) (by kernel_rfl) (by decide) (by kernel_rfl) hS (fun K hK => ?_)
    simp only [Mix.pick]
    repeat (go_big_quiet_step (fail))
    refine wpQuiet_nil (hK _ ?_)
    clear hK K
    refine MixH.done (by kernel_rfl) ?_
    have HE : Hid (MP w t M D R B O5 Lo L (.slice va L.length vc) wE ∧ Below W.heap.size W wE ∧ RteAt wE wA.heap.size ((fnd R p.1).getD rz)) := HEND.out
    clear hS hFA HEND bdr
    obtain ⟨Qb, hQb⟩ : ∃ Qb, Qb = wA.heap.size := ⟨_, rfl⟩
    rw [← hQb] at HE ⊢
    clear hQb
    cases hf : fnd R p.1 with
    | none =>
      rw [hf] at HE
      have HFN : Hid (fnd R p.1 = none) := hf
      clear hf
      simp only [Option.getD_none, Option.isSome_none]
      gi_wp2
      refine ⟨kf_below HE.out.2.1, KB.ch (Ch.ofBelow (S := fun _ => False) HE.out.2.1) (by have := HI1.out.2.1; have := HLE.out; omega) (fun h => h), ?_⟩
      show ∃ v, MP w t M D R B O5 Lo ((pre ++ [p]).filterMap (fun p => fnd R p.1)) v wE ∧ w1.heap.size ≤ wE.heap.size
      rw [fm_none HFN.out, HL.out.1]
      exact ⟨_, HE.out.1, Nat.le_trans HLE.out HE.out.2.1.size⟩
    | some r =>
      rw [hf] at HE
      have HFN : Hid (fnd R p.1 = some r) := hf
      clear hf
      simp only [Option.getD_some, Option.isSome_some]
      have cl := HE.out.1.cl
      gi_wp2_with (first | (refine wpListIn_load_rte (.tmp 7) rfl Qb r rfl HE.out.2.2 rfl ?_) | (refine wpListIn_bs1 (.tmp 23) rfl r rfl rfl ?_) | (refine wpListIn_app1 rfl (.tmp 22) (.tmp 24) rfl Lo (.slice va L.length vc) L rfl (HE.out.1.li.below ((Below.refl _ _).alloc (Nat.le_refl _) _)) wE.heap.size r rfl (rte_new wE r) HL.out.2 ?hsz ?_))
      case hsz => have h1 := HLE.out; have h2 := HI1.out.2.2.1; have h3 := HE.out.2.1.size; simp; omega
      intro v' w' hRL hgr
      have bz : Below wE.heap.size wE (wE.alloc (.cells (rtC r) 32)) := (Below.refl _ _).alloc (Nat.le_refl _) _
      have hgc := (HE.out.1.li.below bz).cells
      have kG := Ch.ofGrown hgr
      obtain ⟨va', vc', hvf⟩ := hRL.form
      subst hvf
      have hLt := HLL.out
      have hTO := HTO.out
      have hI := HI1.out
      have nog : ∀ q, q < Lo → ¬ (Value.slice va L.length vc).ownBlock = some q := fun q hq e => by have := (hgc q e).1; omega
      have cl' : w'.cell? ⟨O5, 0, none⟩ = some (.slice va L.length vc) := kG.cell ((bz.cell (p := ⟨O5, 0, none⟩) (World.block_lt_of_cell? _ _ cl)).trans cl) (nog O5 (by omega))
      have fb' : w'.frozen? ⟨O5, 0, none⟩ = false := by
        rw [kG.frozen (p := ⟨O5, 0, none⟩) (World.block_lt_of_cell? _ _ (bz.cell (p := ⟨O5, 0, none⟩) (World.block_lt_of_cell? _ _ cl) |>.trans cl)) (nog O5 (by omega)), bz.frozen (p := ⟨O5, 0, none⟩) (World.block_lt_of_cell? _ _ cl)]
        exact HE.out.1.fb
      have HQ : Hid (MP w t M D R B O5 Lo (L ++ [r]) (.slice va' (L ++ [r]).length vc') (w'.setCell ⟨O5, 0, none⟩ (.slice va' (L ++ [r]).length vc')) ∧ KeepsFrom w1.heap.size W (w'.setCell ⟨O5, 0, none⟩ (.slice va' (L ++ [r]).length vc')) ∧ KB Bi W (w'.setCell ⟨O5, 0, none⟩ (.slice va' (L ++ [r]).length vc')) ∧ W.heap.size ≤ (w'.setCell ⟨O5, 0, none⟩ (.slice va' (L ++ [r]).length vc')).heap.size) := by
        have kT : Ch (fun q => q = O5) w' (w'.setCell ⟨O5, 0, none⟩ (.slice va' (L ++ [r]).length vc')) := (Ch.refl (fun q => q = O5) w').set _ _ rfl
        have b2 : Below W.heap.size W (wE.alloc (.cells (rtC r) 32)) := bthen HE.out.2.1 bz
        have M2 := HE.out.1.below bz HLL.out
        have hlt : Bi < W.heap.size := by have := HLE.out; omega
        refine ⟨⟨(M2.tab.ch kG (nog t (by omega)) (nog M (by omega))).ch kT hTO.1 hTO.2.1, kT.cell (kG.cell M2.ct (nog B (by omega))) hTO.2.2.1, World.cell?_setCell_same _ _ _ cl', by rw [World.frozen?_setCell]; exact fb', hRL.ch kT (fun g hg e => ?_), ?_⟩, ?_, ?_, ?_⟩
        · have e' : g = O5 := e
          have := (hRL.cells g hg).1
          omega
        · refine (M2.bel.trans (kG.below (fun q e => ?_) M2.bel.size)).trans (kT.below (fun q e => by have e' : q = O5 := e; omega) (Nat.le_trans M2.bel.size kG.size))
          have := (hgc q e).1
          omega
        · refine (kf_below b2).trans ((kf_ch kG (fun q _ e => (hgc q e).2.2)).trans (kf_ch kT (fun q _ e => by have e' : q = O5 := e; subst e'; exact cells_of_cell cl')))
        · exact (KB.ch (Ch.ofBelow (S := fun _ => False) b2) hlt (fun h => h)).tr ((KB.ch kG (Nat.lt_of_lt_of_le hlt b2.size) (nog Bi (by omega))).tr (KB.ch kT (Nat.lt_of_lt_of_le hlt (Nat.le_trans b2.size kG.size)) (fun e => by have e' : Bi = O5 := e; omega)))
        · exact Nat.le_trans b2.size (Nat.le_trans kG.size kT.size)
      rw [show (L ++ [r]).length = L.length + 1 from by simp] at HQ ⊢
      clear hRL hgr bz hgc kG hLt hTO hI nog cl
      gi_wp2
      refine ⟨HQ.out.2.1, HQ.out.2.2.1, ?_⟩
      show ∃ v, MP w t M D R B O5 Lo ((pre ++ [p]).filterMap (fun p => fnd R p.1)) v _ ∧ w1.heap.size ≤ _
      rw [fm_some HFN.out, HL.out.1]
      exact ⟨_, HQ.out.1, Nat.le_trans HLE.out HQ.out.2.2.2⟩
  case done =>
    rintro DD xs A hD rfl ⟨v, hF, hAs⟩ hK
    rw [mIP_eq] at hF
    have HF : Hid (MP w t M D R B O5 Lo (mIP R V x) v A) := hF
    have HKD : Hid (A.heap[DD]? = some (.deferred (some [])) ∧ w1.heap.size ≤ DD) := ⟨hK, hD⟩
    obtain ⟨va, vc, hvf⟩ := hF.li.form
    subst hvf
    have cl := hF.cl
    clear hF hK hAs hD
    gi_wp2
    have hKD := HKD.out
    refine ⟨by simp, .inl ⟨_, _, rfl, run_takeDeferred hKD.1, ?_⟩⟩
    have kD : Ch (fun q => q = DD) A (A.putObj DD (.deferred none)) := (Ch.ofGrown (grownBy_putObj' _ DD _)).mono (fun q _ h => by simpa using h.symm)
    have hM := HF.out.ch kD (fun q e => by have e' : q = DD := e; have := HI1.out.2.2.1; omega) HLL.out (fun q e o ho => by
      have e' : q = DD := e
      subst e'
      rw [hKD.1] at ho
      cases ho
      rfl)
    refine ⟨_, by simp [results, go_sem], _, rfl, hM.li.mono HLL.out.2.2.2.2, hM.bel⟩
  case stop =>
    rintro DD c pre A hD _ h hK
    exact h.elim
end Go.Proofs.YtkfoadapakdmmaaDoor
