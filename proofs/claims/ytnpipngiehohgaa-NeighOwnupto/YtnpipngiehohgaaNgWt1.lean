/-
  Layer 15: Want.
-/
import Derived.Test.YtnpipngiehohgaaNgWt0
namespace Go.Proofs.Ytnpipngiehohgaa
open Go.RowKit Go.Maps

theorem fin_mac {w wX w' : World} {t M B : Nat} {c : CF} {E E' : List EV} {m : Nat → Nat} (hb : w.heap.size = B) (hM : MacAt wX (B + 1) m) (hCA : CA wX t M c E') (hch : Ch (CB t M E) w wX) (k : Ch (fun q => q = B + 1) wX w') : CA w' t M c E' ∧ Ch (CB t M E) w w' := by
  refine ⟨hCA.ch k (fun q hq e => ?_), hch.trans k (fun q h1 h2 => by have h2' : q = B + 1 := h2; omega)⟩
  have e' : q = B + 1 := e
  exact mac_apart hCA hM q hq e'
/-- what Want does: the entries behind it, the MAC, the outcome, the error -/
def WantR (c : CF) (E : List EV) (k : KV) (item : Int) (E' : List EV) (m : Nat → Nat) (oc er : Int) : Prop :=
  (kB k = false ∧ E' = E ∧ m = mz ∧ oc = 5 ∧ er = 1) ∨ (kB k = true ∧
    ((fE E k = none ∧ ∃ e : EV, e.n = ⟨k, mz, 1, 0, 1, [item]⟩ ∧ AddR c E e er E' ∧ m = mz ∧ oc = (if er = 0 then 3 else 5)) ∨
      ∃ e, fE E k = some e ∧
        ((e.n.st = 1 ∧ (e.n.ln.length : Int) = c.li ∧ E' = E ∧ m = mz ∧ oc = 5 ∧ er = 152) ∨
          (e.n.st = 1 ∧ (e.n.ln.length : Int) ≠ c.li ∧ (∃ lv', E' = updE E k ⟨{ e.n with ln := e.n.ln ++ [item] }, e.P, lv'⟩) ∧ m = mz ∧ oc = 4 ∧ er = 0) ∨
          (e.n.st = 3 ∧ E' = updE E k ⟨{ e.n with st := 4, ag := 0, tr := 1 }, e.P, e.lv⟩ ∧ m = e.n.m ∧ oc = 2 ∧ er = 0) ∨
          (e.n.st ≠ 1 ∧ e.n.st ≠ 3 ∧ E' = E ∧ m = e.n.m ∧ oc = 1 ∧ er = 0))))
theorem AddR.blocks {t M B : Nat} {c : CF} {E E' : List EV} {e : EV} {er : Int} (h : AddR c E e er E') (h1 : B ≤ e.P) (h2 : ∀ g, e.lv.ownBlock = some g → B ≤ g) : ∀ q, CB t M E' q → CB t M E q ∨ B ≤ q := by
  have key : ∀ (E0 : List EV), (∀ a ∈ E0, a ∈ E) → ∀ q, CB t M (E0 ++ [e]) q → CB t M E q ∨ B ≤ q := by
    rintro E0 hs q (rfl | rfl | ⟨a, ha, hq⟩)
    · exact .inl (.inl rfl)
    · exact .inl (.inr (.inl rfl))
    · rcases List.mem_append.1 ha with ha | ha
      · exact .inl (.inr (.inr ⟨a, hs a ha, hq⟩))
      · simp only [List.mem_singleton] at ha
        subst ha
        rcases hq with rfl | hq
        · exact .inr h1
        · exact .inr (h2 q hq)
  rcases h with ⟨_, _, rfl⟩ | ⟨_, _, _, rfl⟩ | ⟨_, s, _, _, rfl⟩
  · exact key E (fun _ h => h)
  · exact fun q hq => .inl hq
  · exact key _ (fun a ha => (List.mem_filter.1 ha).1)
set_option maxHeartbeats 6400000 in
set_option maxRecDepth 100000 in
theorem want_any (t M : Nat) (c : CF) (E : List EV) (k : KV) (item : Int) (w : World) (h : CA w t M c E) (hl : E.length ≤ 1024) (ha : ∀ e ∈ E, 0 ≤ e.n.ag) (hb : ∀ e ∈ E, e.n.ln.length ≤ 64) (hk : k.Wf) :
    Calls Try.prog 15 #[.pointer (some ⟨t, 0, none⟩), .int .i64 k.pt, .agg (ipCells k.V k.x), .int .i64 item] w fun r w' => ∃ m oc er E', r = .returned (.tuple #[.agg (macC m), .int .i64 oc, .int .i64 er]) ∧ WantR c E k item E' m oc er ∧ CA w' t M c E' ∧ Ch (CB t M E) w w' ∧ ∀ q, CB t M E' q → CB t M E q ∨ w.heap.size ≤ q := by
  have HC : Hid (CA w t M c E ∧ E.length ≤ 1024 ∧ (∀ e ∈ E, 0 ≤ e.n.ag) ∧ (∀ e ∈ E, e.n.ln.length ≤ 64) ∧ k.Wf) := ⟨h, hl, ha, hb, hk⟩
  clear h hl ha hk hb
  have hb := ipr_new w k.V k.x
  have bel : Below w.heap.size w (w.alloc (.cells (ipCells k.V k.x) 31)) := (Below.refl _ _).alloc (Nat.le_refl _) _
  obtain ⟨CX, hC⟩ : ∃ C, C = ipCells k.V k.x := ⟨_, rfl⟩
  obtain ⟨W, hW⟩ : ∃ W, W = w.alloc (.cells (ipCells k.V k.x) 31) := ⟨_, rfl⟩
  rw [← hW] at hb bel
  obtain ⟨B, hB⟩ : ∃ B, B = w.heap.size := ⟨_, rfl⟩
  rw [← hB] at hb
  have HBX : Hid (IprAt W B k.V k.x) := hb
  rw [← hC] at hW ⊢
  have HOX : Hid (w.heap.size = B) := hB.symm
  have HLX : Hid (Below w.heap.size w W) := bel
  have HWX : Hid (w.alloc (.cells CX 31) = W) := hW.symm
  clear hb hW hB hC bel
  have HSZ : Hid (W.heap.size = B + 1) := by show _ = _; rw [← HWX.out, World.size_alloc, HOX.out]
  obtain ⟨Y, hY⟩ : ∃ Y, Y = W.alloc (.cells (macC mz) 33) := ⟨_, rfl⟩
  have bY : Below W.heap.size W Y := by rw [hY]; exact (Below.refl _ _).alloc (Nat.le_refl _) _
  have HY : Hid (IprAt Y B k.V k.x ∧ MacAt Y (B + 1) mz ∧ Below w.heap.size w Y ∧ CA Y t M c E) := ⟨HBX.out.below bY, by rw [hY, ← HSZ.out]; exact mac_new W mz, bthen HLX.out bY, HC.out.1.below (bthen HLX.out bY)⟩
  have HYE : Hid (W.alloc (.cells (macC mz) 33) = Y ∧ Y.heap.size = B + 2) := ⟨hY.symm, by rw [hY, World.size_alloc, HSZ.out]⟩
  clear hY bY
  go_enter Try.func15, Try.ntmps15
  go_wp2_with (first | (rw [HOX.out, HWX.out]; refine wpList_alloc_mac rfl rfl ?_; rw [HSZ.out, HYE.out.1]; simp only [Act.put, List.setIfInBounds_toArray, List.set_cons_succ, List.set_cons_zero]) | (refine wpList_load_ipr (.tmp 6) rfl B k.V k.x rfl HY.out.1 rfl ?_) | (refine wpList_build_key (.tmp 13) (.tmp 14) rfl k.pt k.V k.x rfl rfl rfl ?_) | (refine wpList_alloc_key rfl rfl ?_) | (refine wpList_store_key (.tmp 11) (.tmp 15) rfl rfl Y.heap.size kz k rfl rfl (key_new Y kz) rfl ?_))
  intro w1 hK1 k1
  have bz : Below Y.heap.size Y (Y.alloc (.cells (kC kz) 98)) := (Below.refl _ _).alloc (Nat.le_refl _) _
  have b1 : Below Y.heap.size Y w1 := bz.trans (k1.below (fun q e => by have e' : q = Y.heap.size := e; omega) bz.size)
  obtain ⟨O11, hO11⟩ : ∃ O, O = Y.heap.size := ⟨_, rfl⟩
  rw [← hO11] at hK1 ⊢
  have H1 : Hid (KeyAt w1 O11 k ∧ MacAt w1 (B + 1) mz ∧ Below w.heap.size w w1 ∧ CA w1 t M c E) := ⟨hK1, HY.out.2.1.below b1, bthen HY.out.2.2.1 b1, HY.out.2.2.2.below b1⟩
  have QM : Hid _ := mayBe_any k w1
  obtain ⟨mb, hmb⟩ : ∃ mb, kB k = mb := ⟨_, rfl⟩
  rw [hmb] at QM
  have HMB : Hid (kB k = mb) := hmb
  clear hK1 k1 bz b1 hO11 hmb HBX HLX HWX HY HYE HSZ
  go_wp2_with (first | (refine wpList_load_key (.tmp 11) rfl O11 k rfl H1.out.1 rfl ?_))
  refine Calls.mono QM.out ?_
  rintro r w2 ⟨rfl, b2⟩
  have H2 : Hid (KeyAt w2 O11 k ∧ MacAt w2 (B + 1) mz ∧ Below w.heap.size w w2 ∧ CA w2 t M c E) := ⟨H1.out.1.below b2, H1.out.2.1.below b2, bthen H1.out.2.2.1 b2, H1.out.2.2.2.below b2⟩
  clear b2 H1 QM
  cases mb with
  | false =>
    have HX : Hid (MacAt w2 (B + 1) mz ∧ CA w2 t M c E ∧ Ch (CB t M E) w w2) := ⟨H2.out.2.1, H2.out.2.2.2, Ch.ofBelow H2.out.2.2.1⟩
    go_wp2_with (first | (refine wpList_build_mac0 rfl rfl ?_) | (refine wpList_store_mac (.tmp 8) (.tmp 19) rfl rfl (B + 1) mz mz rfl rfl HX.out.1 rfl ?_))
    intro w9 hM9 k9
    have H9 : Hid (MacAt w9 (B + 1) (mz) ∧ CA w9 t M c (E) ∧ Ch (CB t M E) w w9) := ⟨hM9, (fin_mac HOX.out HX.out.1 HX.out.2.1 HX.out.2.2 k9).1, (fin_mac HOX.out HX.out.1 HX.out.2.1 HX.out.2.2 k9).2⟩
    clear hM9 k9
    go_wp2_with fail
    refine bodyPost_ret (results_mac_tt rfl _ _ (B + 1) _ rfl H9.out.1) rfl ?_
    exact ⟨mz, 5, 1, E, rfl, .inl ⟨HMB.out, rfl, rfl, rfl, rfl⟩, H9.out.2.1, H9.out.2.2, fun q hq => .inl hq⟩
  | true =>
    obtain ⟨pv, hpv⟩ : ∃ pv, ptE (fE E k) = pv := ⟨_, rfl⟩
    have HPV : Hid (ptE (fE E k) = pv) := hpv
    clear hpv
    go_upto_region 4 with fail
    go_cut [12] (fun v wx => v = pv ∧ Hid (KeyAt wx O11 k ∧ MacAt wx (B + 1) mz ∧ Below w.heap.size w wx ∧ CA wx t M c E))
    case first =>
      refine MixH.start (fun A => KeyAt A O11 k ∧ CA A t M c E) (by kernel_rfl) ?_
      obtain ⟨wA, hwA⟩ : ∃ wA, wA = w2.drew := ⟨_, rfl⟩
      have bdr : Below w2.heap.size w2 wA := by rw [hwA]; exact (Below.refl _ _).drew
      have hS : KeyAt wA O11 k ∧ CA wA t M c E := ⟨H2.out.1.below bdr, H2.out.2.2.2.below bdr⟩
      have HE : Hid (KeyAt wA O11 k ∧ MacAt wA (B + 1) mz ∧ Below w.heap.size w wA ∧ CA wA t M c E) := ⟨hS.1, H2.out.2.1.below bdr, bthen H2.out.2.2.1 bdr, hS.2⟩
      rw [← hwA]
      clear hwA bdr
      refine MixH.takes [true, true, true] 4 (by kernel_rfl) (by kernel_rfl) (by decide) (by kernel_rfl) hS (fun K hK => ?_)
      simp only [Mix.pick]
      repeat (go_big_quiet_step (fail))
      refine wpQuiet_nil (hK _ ?_)
      clear hK K
      refine MixH.take 3 3 _ (.map (some M)) rfl (by kernel_rfl) (by kernel_rfl) (by kernel_rfl) (by kernel_rfl) (yields_map (.tmp 22) rfl ⟨t, 5, none⟩ (.map (some M)) rfl rfl (fun A hA => hA.2.cb.mp)) hS (fun a' ha => ?_)
      simp only [Act.put, List.setIfInBounds_toArray, List.set_cons_succ, List.set_cons_zero] at ha
      subst ha
      refine MixH.take 2 4 _ (.agg (kC k)) rfl (by kernel_rfl) (by kernel_rfl) (by kernel_rfl) (by kernel_rfl) (yields_key (.tmp 11) rfl O11 0 k rfl rfl (fun A hA => hA.1.all)) hS (fun a' ha => ?_)
      simp only [Act.put, List.setIfInBounds_toArray, List.set_cons_succ, List.set_cons_zero] at ha
      subst ha
      refine MixH.take 1 5 _ (pv) rfl (by kernel_rfl) (by kernel_rfl) (by kernel_rfl) (by kernel_rfl) (yields_look (.tmp 23) (.tmp 24) rfl t M c E k HC.out.2.2.2.2 rfl rfl pv HPV.out rfl (fun A hA => hA.2)) hS (fun a' ha => ?_)
      simp only [Act.put, List.setIfInBounds_toArray, List.set_cons_succ, List.set_cons_zero] at ha
      subst ha
      refine MixH.takes [false, false, false, false, false, false, true] 0 (by kernel_rfl) (by kernel_rfl) (by decide) (by kernel_rfl) hS (fun K hK => ?_)
      simp only [Mix.pick]
      repeat (go_big_quiet_step (fail))
      refine wpQuiet_nil (hK _ ?_)
      clear hK K
      refine MixH.done (by kernel_rfl) ?_
      clear hS
      go_wp2
      go_meet
      exact ⟨rfl, HE⟩
    case rest =>
      obtain ⟨rfl, HE⟩ := hcut
      clear H2
      cases hf : fE E k with
      | none =>
        rw [hf] at HPV
        have HFN : Hid (fE E k = none) := hf
        have QB : Hid _ := begin_any t M c E k item wc HE.out.2.2.2 HC.out.2.1 HC.out.2.2.1 HC.out.2.2.2.2 hf
        clear hf
        have hv := HPV.out
        simp only [ptE] at hv
        subst hv
        go_wp2_with (first | (refine wpList_load_key (.tmp 11) rfl O11 k rfl HE.out.1 rfl ?_))
        refine Calls.mono QB.out ?_
        rintro r w3 ⟨er, E', e, rfl, hen, hP, hL, hadd, hCA, hch⟩
        obtain ⟨oc, hoc⟩ : ∃ oc : Int, (if er = 0 then (3 : Int) else 5) = oc := ⟨_, rfl⟩
        rw [hoc]
        have hsz := HE.out.2.2.1.size
        have HX : Hid (MacAt w3 (B + 1) mz ∧ CA w3 t M c E' ∧ Ch (CB t M E) w w3) := ⟨HE.out.2.1.ch hch (fun q => by
          have q' : B + 1 = M := q
          have h1 := HC.out.1.tlt M (.inr (.inl rfl))
          have := HOX.out
          omega), hCA, (Ch.ofBelow HE.out.2.2.1).trans hch (fun q _ hq => by have hq' : q = M := hq; exact .inr (.inl hq'))⟩
        have HR : Hid (e.n = ⟨k, mz, 1, 0, 1, [item]⟩ ∧ AddR c E e er E' ∧ (if er = 0 then (3 : Int) else 5) = oc ∧ ∀ q, CB t M E' q → CB t M E q ∨ w.heap.size ≤ q) := ⟨hen, hadd, hoc, hadd.blocks (by omega) (fun g hg => by have := hL g hg; omega)⟩
        clear hen hP hL hadd hCA hch hoc QB hsz
        go_wp2_with (first | (refine wpList_store_mac (.tmp 8) (.tmp 32) rfl rfl (B + 1) mz mz rfl rfl HX.out.1 rfl ?_))
        intro w9 hM9 k9
        have H9 : Hid (MacAt w9 (B + 1) (mz) ∧ CA w9 t M c (E') ∧ Ch (CB t M E) w w9) := ⟨hM9, (fin_mac HOX.out HX.out.1 HX.out.2.1 HX.out.2.2 k9).1, (fin_mac HOX.out HX.out.1 HX.out.2.1 HX.out.2.2 k9).2⟩
        clear hM9 k9
        go_wp2_with fail
        refine bodyPost_ret (results_mac_tt rfl _ _ (B + 1) _ rfl H9.out.1) rfl ?_
        exact ⟨mz, oc, er, E', rfl, .inr ⟨HMB.out, .inl ⟨HFN.out, e, HR.out.1, HR.out.2.1, rfl, HR.out.2.2.1.symm⟩⟩, H9.out.2.1, H9.out.2.2, HR.out.2.2.2⟩
      | some e =>
        rw [hf] at HPV
        have HFS : Hid (fE E k = some e ∧ e ∈ E) := ⟨hf, (fE_some hf).1⟩
        clear hf
        have hv := HPV.out
        simp only [ptE] at hv
        subst hv
        have c6 := EntAt.cell (HE.out.2.2.2.en e HFS.out.2) 6
        simp only [enC, List.getElem?_toArray, List.getElem?_cons_succ, List.getElem?_cons_zero] at c6
        obtain ⟨st, hst⟩ : ∃ st, e.n.st = st := ⟨_, rfl⟩
        rw [hst] at c6
        have HST : Hid (e.n.st = st) := hst
        clear hst
        by_cases h1 : st = 1
        · subst h1
          have QW : Hid _ := wait_any t M c E k e item wc HE.out.2.2.2 HFS.out.1 (HC.out.2.2.2.1 e HFS.out.2)
          go_wp2_with fail
          refine Calls.mono QW.out ?_
          rintro r w3 (⟨hfu, rfl, b3⟩ | ⟨hfu, lv', rfl, hCA, hch, hlv⟩)
          · have HX : Hid (MacAt w3 (B + 1) mz ∧ CA w3 t M c E ∧ Ch (CB t M E) w w3) := ⟨HE.out.2.1.below b3, HE.out.2.2.2.below b3, Ch.ofBelow (bthen HE.out.2.2.1 b3)⟩
            have HFU : Hid ((e.n.ln.length : Int) = c.li) := hfu
            clear hfu b3 QW c6
            go_wp2_with (first | (refine wpList_store_mac (.tmp 8) (.tmp 45) rfl rfl (B + 1) mz mz rfl rfl HX.out.1 rfl ?_))
            intro w9 hM9 k9
            have H9 : Hid (MacAt w9 (B + 1) (mz) ∧ CA w9 t M c (E) ∧ Ch (CB t M E) w w9) := ⟨hM9, (fin_mac HOX.out HX.out.1 HX.out.2.1 HX.out.2.2 k9).1, (fin_mac HOX.out HX.out.1 HX.out.2.1 HX.out.2.2 k9).2⟩
            clear hM9 k9
            go_wp2_with fail
            refine bodyPost_ret (results_mac_tt rfl _ _ (B + 1) _ rfl H9.out.1) rfl ?_
            exact ⟨mz, 5, 152, E, rfl, .inr ⟨HMB.out, .inr ⟨e, HFS.out.1, .inl ⟨HST.out, HFU.out, rfl, rfl, rfl, rfl⟩⟩⟩, H9.out.2.1, H9.out.2.2, fun q hq => .inl hq⟩
          · have hsz := HE.out.2.2.1.size
            have HX : Hid (MacAt w3 (B + 1) mz ∧ CA w3 t M c (updE E k ⟨{ e.n with ln := e.n.ln ++ [item] }, e.P, lv'⟩) ∧ Ch (CB t M E) w w3) := ⟨HE.out.2.1.ch hch (fun q => by
              have ap := mac_apart HE.out.2.2.2 HE.out.2.1
              rcases q with q | q
              · exact ap e.P (.inr (.inr ⟨e, HFS.out.2, .inl rfl⟩)) q.symm
              · exact ap (B + 1) (.inr (.inr ⟨e, HFS.out.2, .inr q⟩)) rfl), hCA, (Ch.ofBelow HE.out.2.2.1).trans hch (fun q _ hq => .inr (.inr ⟨e, HFS.out.2, hq⟩))⟩
            have HFU : Hid ((e.n.ln.length : Int) ≠ c.li) := hfu
            have HBL : Hid (∀ q, CB t M (updE E k ⟨{ e.n with ln := e.n.ln ++ [item] }, e.P, lv'⟩) q → CB t M E q ∨ w.heap.size ≤ q) := fun q hq => (CB.turned (A := wc) (e' := ⟨{ e.n with ln := e.n.ln ++ [item] }, e.P, lv'⟩) HFS.out.1 rfl hlv q hq).imp id (fun h => by omega)
            clear hfu hCA hch hlv QW c6 hsz
            go_wp2_with (first | (refine wpList_store_mac (.tmp 8) (.tmp 45) rfl rfl (B + 1) mz mz rfl rfl HX.out.1 rfl ?_))
            intro w9 hM9 k9
            have H9 : Hid (MacAt w9 (B + 1) (mz) ∧ CA w9 t M c (updE E k ⟨{ e.n with ln := e.n.ln ++ [item] }, e.P, lv'⟩) ∧ Ch (CB t M E) w w9) := ⟨hM9, (fin_mac HOX.out HX.out.1 HX.out.2.1 HX.out.2.2 k9).1, (fin_mac HOX.out HX.out.1 HX.out.2.1 HX.out.2.2 k9).2⟩
            clear hM9 k9
            go_wp2_with fail
            refine bodyPost_ret (results_mac_tt rfl _ _ (B + 1) _ rfl H9.out.1) rfl ?_
            exact ⟨mz, 4, 0, rfl, _, .inr ⟨HMB.out, .inr ⟨e, HFS.out.1, .inr (.inl ⟨HST.out, HFU.out, ⟨lv', rfl⟩, rfl, rfl, rfl⟩)⟩⟩, H9.out.2.1, H9.out.2.2, HBL.out⟩
        · have q1 : (st == 1) = false := by simpa using h1
          by_cases h3 : st = 3
          · subst h3
            have QT : Hid _ := turn_any e 4 1 wc (HE.out.2.2.2.en e HFS.out.2)
            go_upto_region 11 with fail
            go_wp2_with fail
            refine Calls.mono QT.out ?_
            rintro r w3 ⟨rfl, hE3, k3⟩
            have k3' : Ch (fun q => q = e.P ∨ e.lv.ownBlock = some q) wc w3 := k3.mono (fun _ _ h => .inl h)
            have hnt := (HE.out.2.2.2.nt.2.1 e HFS.out.2).2.2 e HFS.out.2
            have hLN : LnAt w3 e.lv e.n.ln := k3.owns (HE.out.2.2.2.li e HFS.out.2) (fun g hg q => hnt (by have q' : g = e.P := q; rw [hg, q']))
            have HX : Hid (MacAt w3 (B + 1) mz ∧ CA w3 t M c (updE E k ⟨{ e.n with st := 4, ag := 0, tr := 1 }, e.P, e.lv⟩) ∧ Ch (CB t M E) w w3) := ⟨HE.out.2.1.ch k3 (fun q => mac_apart HE.out.2.2.2 HE.out.2.1 e.P (.inr (.inr ⟨e, HFS.out.2, .inl rfl⟩)) (by have q' : B + 1 = e.P := q; exact q'.symm)), HE.out.2.2.2.turned HFS.out.1 rfl rfl k3' hE3 hLN (fun g hg => .inl hg), (Ch.ofBelow HE.out.2.2.1).trans k3 (fun q _ hq => .inr (.inr ⟨e, HFS.out.2, .inl hq⟩))⟩
            have HMC : Hid (w3.rangeAt e.P 0 (macC e.n.m).toList) := EntAt.mac (e := ⟨{ e.n with st := 4, ag := 0, tr := 1 }, e.P, e.lv⟩) hE3
            have HBL : Hid (∀ q, CB t M (updE E k ⟨{ e.n with st := 4, ag := 0, tr := 1 }, e.P, e.lv⟩) q → CB t M E q ∨ w.heap.size ≤ q) := fun q hq => (CB.turned (A := wc) (e' := ⟨{ e.n with st := 4, ag := 0, tr := 1 }, e.P, e.lv⟩) HFS.out.1 rfl (fun g hg => .inl hg) q hq).imp id (fun h => by have := HE.out.2.2.1.size; omega)
            clear hE3 k3 k3' hnt hLN QT c6
            go_wp2_with (first | (refine wpList_mid_mac (.tmp 54) rfl e.P 0 e.n.m rfl HMC.out rfl ?_) | (refine wpList_store_mac (.tmp 8) (.tmp 55) rfl rfl (B + 1) mz e.n.m rfl rfl HX.out.1 rfl ?_))
            intro w9 hM9 k9
            have H9 : Hid (MacAt w9 (B + 1) (e.n.m) ∧ CA w9 t M c (updE E k ⟨{ e.n with st := 4, ag := 0, tr := 1 }, e.P, e.lv⟩) ∧ Ch (CB t M E) w w9) := ⟨hM9, (fin_mac HOX.out HX.out.1 HX.out.2.1 HX.out.2.2 k9).1, (fin_mac HOX.out HX.out.1 HX.out.2.1 HX.out.2.2 k9).2⟩
            clear hM9 k9
            go_wp2_with fail
            refine bodyPost_ret (results_mac_tt rfl _ _ (B + 1) _ rfl H9.out.1) rfl ?_
            exact ⟨e.n.m, 2, 0, rfl, _, .inr ⟨HMB.out, .inr ⟨e, HFS.out.1, .inr (.inr (.inl ⟨HST.out, rfl, rfl, rfl, rfl⟩))⟩⟩, H9.out.2.1, H9.out.2.2, HBL.out⟩
          · have q3 : (st == 3) = false := by simpa using h3
            have HX : Hid (MacAt wc (B + 1) mz ∧ CA wc t M c E ∧ Ch (CB t M E) w wc) := ⟨HE.out.2.1, HE.out.2.2.2, Ch.ofBelow HE.out.2.2.1⟩
            have HMC : Hid (wc.rangeAt e.P 0 (macC e.n.m).toList) := EntAt.mac (HE.out.2.2.2.en e HFS.out.2)
            have HN : Hid (e.n.st ≠ 1 ∧ e.n.st ≠ 3) := ⟨by rw [HST.out]; exact h1, by rw [HST.out]; exact h3⟩
            clear h1 h3
            go_upto_region 13 with fail
            go_wp2_with (first | (refine wpList_mid_mac (.tmp 58) rfl e.P 0 e.n.m rfl HMC.out rfl ?_) | (refine wpList_store_mac (.tmp 8) (.tmp 59) rfl rfl (B + 1) mz e.n.m rfl rfl HX.out.1 rfl ?_))
            intro w9 hM9 k9
            have H9 : Hid (MacAt w9 (B + 1) (e.n.m) ∧ CA w9 t M c (E) ∧ Ch (CB t M E) w w9) := ⟨hM9, (fin_mac HOX.out HX.out.1 HX.out.2.1 HX.out.2.2 k9).1, (fin_mac HOX.out HX.out.1 HX.out.2.1 HX.out.2.2 k9).2⟩
            clear hM9 k9
            go_wp2_with fail
            refine bodyPost_ret (results_mac_tt rfl _ _ (B + 1) _ rfl H9.out.1) rfl ?_
            exact ⟨e.n.m, 1, 0, E, rfl, .inr ⟨HMB.out, .inr ⟨e, HFS.out.1, .inr (.inr (.inr ⟨HN.out.1, HN.out.2, rfl, rfl, rfl, rfl⟩))⟩⟩, H9.out.2.1, H9.out.2.2, fun q hq => .inl hq⟩
end Go.Proofs.Ytnpipngiehohgaa
