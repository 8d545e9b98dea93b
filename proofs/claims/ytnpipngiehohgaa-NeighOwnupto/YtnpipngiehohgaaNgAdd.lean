/-
  Layer 15: add.
-/
import Derived.Test.YtnpipngiehohgaaNgOld
namespace Go.Proofs.Ytnpipngiehohgaa
open Go.RowKit Go.Maps

theorem ch_turned {w w' : World} {b : Nat} (h : w.mapTurned w' b) : Ch (fun q => q = b) w w' := by
  obtain ⟨es, c, es', c', hb, rfl⟩ := h
  refine ⟨rfl, rfl, rfl, by simp [ChangeMaps.setBlock], fun k hk hne => ?_⟩
  exact ChangeMaps.heap_setBlock_other hb _ hne
/-- what add does: the error, the entries behind it -/
def AddR (c : CF) (E : List EV) (e : EV) (er : Int) (E' : List EV) : Prop :=
  ((E.length : Int) ≠ c.mx ∧ er = 0 ∧ E' = E ++ [e]) ∨ ((E.length : Int) = c.mx ∧ OldOf E none ∧ er = 151 ∧ E' = E) ∨ ((E.length : Int) = c.mx ∧ ∃ s, OldOf E (some s) ∧ er = 0 ∧ E' = delE E s.n.k ++ [e])
theorem fE_del {E : List EV} {k q : KV} (h : fE E k = none) : fE (delE E q) k = none := by
  unfold fE at h ⊢
  rw [List.find?_eq_none] at h ⊢
  intro x hx
  exact h x (List.mem_filter.1 hx).1
set_option maxHeartbeats 6400000 in
set_option maxRecDepth 100000 in
theorem add_any (t M : Nat) (c : CF) (E : List EV) (e : EV) (w : World) (h : CA w t M c E) (hl : E.length ≤ 1024) (ha : ∀ e ∈ E, 0 ≤ e.n.ag) (hk : e.n.k.Wf) (hn : fE E e.n.k = none) (hE : EntAt w e) (hL : LnAt w e.lv e.n.ln) (fP : ∀ a ∈ E, a.P ≠ e.P) (fL : ∀ a ∈ E, ∀ g, a.lv.ownBlock = some g → e.lv.ownBlock ≠ some g) :
    Calls Try.prog 51 #[.pointer (some ⟨t, 0, none⟩), .agg (kC e.n.k), .pointer (some ⟨e.P, 0, none⟩)] w fun r w' => ∃ er E', r = .returned (.int .i64 er) ∧ AddR c E e er E' ∧ CA w' t M c E' ∧ Ch (fun q => q = M) w w' := by
  obtain ⟨ke, hke⟩ := kv_key e.n.k hk
  have HKE : Hid (keyOf Try.prog 98 (.agg (kC e.n.k)) = some ke) := hke
  have HWF : Hid e.n.k.Wf := hk
  have HLEN : Hid (E.length ≤ 1024) := hl
  have HAG : Hid (∀ e ∈ E, 0 ≤ e.n.ag) := ha
  have HF : Hid (fE E e.n.k = none ∧ (∀ a ∈ E, a.P ≠ e.P) ∧ ∀ a ∈ E, ∀ g, a.lv.ownBlock = some g → e.lv.ownBlock ≠ some g) := ⟨hn, fP, fL⟩
  have HC : Hid (CA w t M c E ∧ EntAt w e ∧ LnAt w e.lv e.n.ln) := ⟨h, hE, hL⟩
  clear h hl ha hk hn hE hL fP fL hke
  have hb := key_new w e.n.k
  have bel : Below w.heap.size w (w.alloc (.cells (kC e.n.k) 98)) := (Below.refl _ _).alloc (Nat.le_refl _) _
  obtain ⟨CX, hC⟩ : ∃ C, C = kC e.n.k := ⟨_, rfl⟩
  obtain ⟨W, hW⟩ : ∃ W, W = w.alloc (.cells (kC e.n.k) 98) := ⟨_, rfl⟩
  rw [← hW] at hb bel
  obtain ⟨B, hB⟩ : ∃ B, B = w.heap.size := ⟨_, rfl⟩
  rw [← hB] at hb
  have HBX : Hid (KeyAt W B e.n.k) := hb
  rw [← hC] at hW ⊢
  have HOX : Hid (w.heap.size = B) := hB.symm
  have HLX : Hid (Below w.heap.size w W) := bel
  have HWX : Hid (w.alloc (.cells CX 98) = W) := hW.symm
  clear hb hW hB hC bel
  have HW0 : Hid (CA W t M c E ∧ EntAt W e ∧ LnAt W e.lv e.n.ln ∧ KeyAt W B e.n.k ∧ Below w.heap.size w W ∧ B ≠ M) := ⟨HC.out.1.below HLX.out, EntAt.below HC.out.2.1 HLX.out, (Ch.ofBelow (S := fun _ => False) HLX.out).owns HC.out.2.2 (fun _ _ h => h), HBX.out, HLX.out, by have h1 := HC.out.1.tlt M (.inr (.inl rfl)); have := HOX.out; omega⟩
  have HBM : Hid (¬ B = M) := HW0.out.2.2.2.2.2
  go_enter Try.func51, Try.ntmps51
  go_upto_region 1 with fail
  rw [HOX.out, HWX.out]
  obtain ⟨D, hD⟩ := HW0.out.1.ma
  have HSZ : Hid (Maps.size D = E.length) := by have := hD.sz; rw [List.length_map] at this; exact this
  clear HLX HWX HBX HC
  go_cut [19] (fun b wx => b = .bool ((E.length : Int) == c.mx) ∧ Hid (CA wx t M c E ∧ EntAt wx e ∧ LnAt wx e.lv e.n.ln ∧ KeyAt wx B e.n.k ∧ Below w.heap.size w wx ∧ MA wx M D (E.map EV.kp)))
  case first =>
    refine MixH.start (fun A => CA A t M c E) (by kernel_rfl) ?_
    obtain ⟨wA, hwA⟩ : ∃ wA, wA = W.drew := ⟨_, rfl⟩
    have bdr : Below W.heap.size W wA := by rw [hwA]; exact (Below.refl _ _).drew
    have hS : CA wA t M c E := HW0.out.1.below bdr
    have HE : Hid (CA wA t M c E ∧ EntAt wA e ∧ LnAt wA e.lv e.n.ln ∧ KeyAt wA B e.n.k ∧ Below w.heap.size w wA ∧ MA wA M D (E.map EV.kp)) := ⟨hS, EntAt.below HW0.out.2.1 bdr, (Ch.ofBelow (S := fun _ => False) bdr).owns HW0.out.2.2.1 (fun _ _ h => h), HW0.out.2.2.2.1.below bdr, bthen HW0.out.2.2.2.2.1 bdr, hD.below bdr⟩
    have HDA : Hid (∀ A, CA A t M c E → wA.ownsMap Try.prog 98 anyE M E.length D) := fun _ _ => HE.out.2.2.2.2.2.mo'
    rw [← hwA]
    clear hwA bdr hD
    refine MixH.takes [true, true, true, false, false, true, true, true, true] 4 (by kernel_rfl) (by kernel_rfl) (by decide) (by kernel_rfl) hS (fun K hK => ?_)
    simp only [Mix.pick]
    repeat (go_big_quiet_step (fail))
    refine wpQuiet_nil (hK _ ?_)
    clear hK K
    refine MixH.take 3 3 _ (.map (some M)) rfl (by kernel_rfl) (by kernel_rfl) (by kernel_rfl) (by kernel_rfl) (yields_map (.tmp 11) rfl ⟨t, 5, none⟩ (.map (some M)) rfl rfl (fun A hA => hA.cb.mp)) hS (fun a' ha => ?_)
    simp only [Act.put, List.setIfInBounds_toArray, List.set_cons_succ, List.set_cons_zero] at ha
    subst ha
    refine MixH.take 2 9 _ (.int .i64 c.mx) rfl (by kernel_rfl) (by kernel_rfl) (by kernel_rfl) (by kernel_rfl) (yields_int (.tmp 17) rfl ⟨t, 0, none⟩ (.int .i64 c.mx) rfl rfl (fun A hA => hA.cb.cell 0)) hS (fun a' ha => ?_)
    simp only [Act.put, List.setIfInBounds_toArray, List.set_cons_succ, List.set_cons_zero] at ha
    subst ha
    refine MixH.one [false, false, false, false, true] 1 4 _ rfl rfl (by kernel_rfl) (by kernel_rfl) (fun K hK => ?_)
    simp only [Mix.pick]
    refine wpList_len_own _ rfl (.tmp 12) 100 rfl 98 99 Try.underlying100 anyE M E.length D rfl (HDA.out wA hS) ?_
    rw [HSZ.out]
    go_wp2
    refine ⟨rfl, hK _ _ hS ?_⟩
    clear hK K
    refine MixH.takes [false, false, false, false, false, false, false, false, false, false, true] 0 (by kernel_rfl) (by kernel_rfl) (by decide) (by kernel_rfl) hS (fun K hK => ?_)
    simp only [Mix.pick]
    repeat (go_big_quiet_step (fail))
    refine wpQuiet_nil (hK _ ?_)
    clear hK K
    refine MixH.done (by kernel_rfl) ?_
    clear hS
    go_wp2
    go_meet
    exact ⟨rfl, HE⟩
  case rest =>
    obtain ⟨rfl, HE⟩ := hcut
    clear hD HW0
    by_cases hfull : (E.length : Int) = c.mx
    · have qf : ((E.length : Int) == c.mx) = true := by simpa using hfull
      have HFU : Hid ((E.length : Int) = c.mx) := hfull
      rw [qf]
      have QO : Hid _ := oldest_any t M c E wc HE.out.1 HAG.out
      clear qf hfull
      go_wp2_with fail
      refine Calls.mono QO.out ?_
      rintro r w2 ⟨o, rfl, hold, b2⟩
      have H2 : Hid (CA w2 t M c E ∧ MA w2 M D (E.map EV.kp) ∧ EntAt w2 e ∧ LnAt w2 e.lv e.n.ln ∧ KeyAt w2 B e.n.k ∧ Below w.heap.size w w2) := ⟨HE.out.1.below b2, HE.out.2.2.2.2.2.below b2, EntAt.below HE.out.2.1 b2, (Ch.ofBelow (S := fun _ => False) b2).owns HE.out.2.2.1 (fun _ _ h => h), HE.out.2.2.2.1.below b2, bthen HE.out.2.2.2.2.1 b2⟩
      have HOLD : Hid (OldOf E o) := hold
      clear b2 hold QO HE
      go_wp2_with (first | (refine wpList_alloc_key rfl rfl ?_) | (refine wpList_store_key (.tmp 7) (.tmp 23) rfl rfl w2.heap.size kz (olK o) rfl rfl (key_new w2 kz) rfl ?_))
      intro w3 hK3 k3
      have bz : Below w2.heap.size w2 (w2.alloc (.cells (kC kz) 98)) := (Below.refl _ _).alloc (Nat.le_refl _) _
      have b3 : Below w2.heap.size w2 w3 := bz.trans (k3.below (fun q e => by have e' : q = w2.heap.size := e; omega) bz.size)
      obtain ⟨O7, hO7⟩ : ∃ O, O = w2.heap.size := ⟨_, rfl⟩
      rw [← hO7] at hK3 ⊢
      have H3 : Hid (CA w3 t M c E ∧ MA w3 M D (E.map EV.kp) ∧ EntAt w3 e ∧ LnAt w3 e.lv e.n.ln ∧ KeyAt w3 B e.n.k ∧ Below w.heap.size w w3 ∧ KeyAt w3 O7 (olK o) ∧ O7 ≠ M) := ⟨H2.out.1.below b3, H2.out.2.1.below b3, EntAt.below H2.out.2.2.1 b3, (Ch.ofBelow (S := fun _ => False) b3).owns H2.out.2.2.2.1 (fun _ _ h => h), H2.out.2.2.2.2.1.below b3, bthen H2.out.2.2.2.2.2 b3, hK3, by have := H2.out.1.tlt M (.inr (.inl rfl)); omega⟩
      clear hK3 k3 bz b3 hO7 H2
      cases o with
      | none =>
        simp only [Option.isSome_none]
        go_wp2_with fail
        go_ret
        exact ⟨151, E, rfl, .inr (.inl ⟨HFU.out, HOLD.out, rfl, rfl⟩), H3.out.1, (Ch.ofBelow (S := fun _ => False) H3.out.2.2.2.2.2.1).mono (fun _ _ h => h.elim)⟩
      | some s =>
        simp only [Option.isSome_some]
        have hsm : s ∈ E := HOLD.out.1
        obtain ⟨ks, hks⟩ := kv_key s.n.k (H3.out.1.wf s hsm)
        have HKS : Hid (keyOf Try.prog 98 (.agg (kC s.n.k)) = some ks) := hks
        have HK7 : Hid (KeyAt w3 O7 s.n.k) := H3.out.2.2.2.2.2.2.1
        have HEM : Hid (e.P ≠ M ∧ e.lv.ownBlock ≠ some M ∧ B ≠ M ∧ O7 ≠ M) := by
          obtain ⟨es, ck, hM⟩ := H3.out.1.mblk
          refine ⟨fun q => ?_, fun q => ?_, HBM.out, H3.out.2.2.2.2.2.2.2⟩
          · have h1 := H3.out.2.2.1; unfold EntAt at h1; rw [q, hM] at h1; cases h1
          · obtain ⟨cc, hc⟩ := LnAt.kind H3.out.2.2.2.1 M q
            rw [hM] at hc; cases hc
        clear hsm hks
        go_upto_region 5 with fail
        refine MixH.start (fun A => A.cell? ⟨t, 5, none⟩ = some (.map (some M)) ∧ KeyAt A O7 s.n.k) (by kernel_rfl) ?_
        obtain ⟨wA, hwA⟩ : ∃ wA, wA = w3.drew := ⟨_, rfl⟩
        have bdr : Below w3.heap.size w3 wA := by rw [hwA]; exact (Below.refl _ _).drew
        have HTA : Hid (CA wA t M c E ∧ MA wA M D (E.map EV.kp) ∧ EntAt wA e ∧ LnAt wA e.lv e.n.ln ∧ KeyAt wA B e.n.k ∧ Ch (fun q => q = M) w wA) := ⟨H3.out.1.below bdr, H3.out.2.1.below bdr, EntAt.below H3.out.2.2.1 bdr, (Ch.ofBelow (S := fun _ => False) bdr).owns H3.out.2.2.2.1 (fun _ _ h => h), H3.out.2.2.2.2.1.below bdr, (Ch.ofBelow (S := fun _ => False) (bthen H3.out.2.2.2.2.2.1 bdr)).mono (fun _ _ h => h.elim)⟩
        have hS : wA.cell? ⟨t, 5, none⟩ = some (.map (some M)) ∧ KeyAt wA O7 s.n.k := ⟨HTA.out.1.cb.mp, HK7.out.below bdr⟩
        rw [← hwA]
        clear hwA bdr H3 HK7
        refine MixH.takes [true, true, true] 3 (by kernel_rfl) (by kernel_rfl) (by decide) (by kernel_rfl) hS (fun K hK => ?_)
        simp only [Mix.pick]
        repeat (go_big_quiet_step (fail))
        refine wpQuiet_nil (hK _ ?_)
        clear hK K
        refine MixH.take 2 3 _ (.map (some M)) rfl (by kernel_rfl) (by kernel_rfl) (by kernel_rfl) (by kernel_rfl) (yields_map (.tmp 29) rfl ⟨t, 5, none⟩ (.map (some M)) rfl rfl (fun A hA => hA.1)) hS (fun a' ha => ?_)
        simp only [Act.put, List.setIfInBounds_toArray, List.set_cons_succ, List.set_cons_zero] at ha
        subst ha
        refine MixH.take 1 4 _ (.agg (kC s.n.k)) rfl (by kernel_rfl) (by kernel_rfl) (by kernel_rfl) (by kernel_rfl) (yields_key (.tmp 7) rfl O7 0 s.n.k rfl rfl (fun A hA => hA.2.all)) hS (fun a' ha => ?_)
        simp only [Act.put, List.setIfInBounds_toArray, List.set_cons_succ, List.set_cons_zero] at ha
        subst ha
        refine MixH.one [false, false, false, false, false, true] 0 5 _ rfl rfl (by kernel_rfl) (by kernel_rfl) (fun K hK => ?_)
        simp only [Mix.pick]
        refine wpList_delete_own _ rfl (.tmp 30) (.tmp 31) 100 98 rfl 99 lawR Try.underlying100 anyE M E.length D rfl HTA.out.2.1.mo' (.agg (kC s.n.k)) ks rfl HKS.out ?_
        intro wE hown hgr
        have kE : Ch (fun q => q = M) wA wE := ch_turned hgr
        have HEND : Hid (CA wE t M c (delE E s.n.k) ∧ EntAt wE e ∧ LnAt wE e.lv e.n.ln ∧ KeyAt wE B e.n.k ∧ Ch (fun q => q = M) w wE) := by
          have h0 := HTA.out
          have hn := HEM.out
          exact ⟨h0.1.gone s.n.k ks HKS.out D h0.2.1 (by rw [List.length_map]; exact hown) kE, h0.2.2.1.ch kE (fun q => hn.1 q), kE.owns h0.2.2.2.1 (fun g hg q => hn.2.1 (by have q' : g = M := q; rw [hg, q'])), h0.2.2.2.2.1.ch kE (fun q => hn.2.2.1 q), h0.2.2.2.2.2.trans kE (fun _ _ h => h)⟩
        replace hS : wE.cell? ⟨t, 5, none⟩ = some (.map (some M)) ∧ KeyAt wE O7 s.n.k := ⟨HEND.out.1.cb.mp, hS.2.ch kE (fun q => HEM.out.2.2.2 q)⟩
        clear hown hgr kE
        go_wp2
        refine ⟨rfl, hK _ _ hS ?_⟩
        clear hK K
        refine MixH.done (by kernel_rfl) ?_
        clear hS
        have HDW : Hid (CA wE t M c (delE E s.n.k) ∧ EntAt wE e ∧ LnAt wE e.lv e.n.ln ∧ KeyAt wE B e.n.k ∧ Ch (fun q => q = M) w wE) := HEND.out
        have HDWL : Hid ((delE E s.n.k).length ≤ E.length) := List.length_filter_le _ _
        have HFD : Hid (fE (delE E s.n.k) e.n.k = none ∧ (∀ a ∈ delE E s.n.k, a.P ≠ e.P) ∧ ∀ a ∈ delE E s.n.k, ∀ g, a.lv.ownBlock = some g → e.lv.ownBlock ≠ some g) := ⟨fE_del HF.out.1, fun a ha => HF.out.2.1 a (List.mem_filter.1 ha).1, fun a ha => HF.out.2.2 a (List.mem_filter.1 ha).1⟩
        obtain ⟨HDWW, hHDWW⟩ : ∃ x, x = wE := ⟨_, rfl⟩
        rw [← hHDWW] at HDW ⊢
        clear HEND hHDWW HTA
        go_upto_region 6 with fail
        obtain ⟨DB, hDB⟩ := HDW.out.1.ma
        have HLE : Hid ((delE E s.n.k).length ≤ 100000) := by show (delE E s.n.k).length ≤ 100000; have := HLEN.out; have := HDWL.out; omega
        refine MixH.start (fun A => A.cell? ⟨t, 5, none⟩ = some (.map (some M)) ∧ KeyAt A B e.n.k) (by kernel_rfl) ?_
        obtain ⟨wA, hwA⟩ : ∃ wA, wA = HDWW.drew := ⟨_, rfl⟩
        have bdr : Below HDWW.heap.size HDWW wA := by rw [hwA]; exact (Below.refl _ _).drew
        have HTB : Hid (CA wA t M c (delE E s.n.k) ∧ MA wA M DB ((delE E s.n.k).map EV.kp) ∧ EntAt wA e ∧ LnAt wA e.lv e.n.ln ∧ KeyAt wA B e.n.k ∧ Ch (fun q => q = M) w wA) := ⟨HDW.out.1.below bdr, hDB.below bdr, EntAt.below HDW.out.2.1 bdr, (Ch.ofBelow (S := fun _ => False) bdr).owns HDW.out.2.2.1 (fun _ _ h => h), HDW.out.2.2.2.1.below bdr, HDW.out.2.2.2.2.trans (Ch.ofBelow (S := fun _ => False) bdr) (fun _ _ h => h.elim)⟩
        have hS : wA.cell? ⟨t, 5, none⟩ = some (.map (some M)) ∧ KeyAt wA B e.n.k := ⟨HTB.out.1.cb.mp, HTB.out.2.2.2.2.1⟩
        rw [← hwA]
        clear hwA bdr hDB
        refine MixH.takes [true, true, true, false, false, true] 3 (by kernel_rfl) (by kernel_rfl) (by decide) (by kernel_rfl) hS (fun K hK => ?_)
        simp only [Mix.pick]
        repeat (go_big_quiet_step (fail))
        refine wpQuiet_nil (hK _ ?_)
        clear hK K
        refine MixH.take 2 3 _ (.map (some M)) rfl (by kernel_rfl) (by kernel_rfl) (by kernel_rfl) (by kernel_rfl) (yields_map (.tmp 34) rfl ⟨t, 5, none⟩ (.map (some M)) rfl rfl (fun A hA => hA.1)) hS (fun a' ha => ?_)
        simp only [Act.put, List.setIfInBounds_toArray, List.set_cons_succ, List.set_cons_zero] at ha
        subst ha
        refine MixH.take 1 4 _ (.agg (kC e.n.k)) rfl (by kernel_rfl) (by kernel_rfl) (by kernel_rfl) (by kernel_rfl) (yields_key (.tmp 4) rfl B 0 e.n.k rfl rfl (fun A hA => hA.2.all)) hS (fun a' ha => ?_)
        simp only [Act.put, List.setIfInBounds_toArray, List.set_cons_succ, List.set_cons_zero] at ha
        subst ha
        refine MixH.one [false, false, false, false, false, false, true] 0 6 _ rfl rfl (by kernel_rfl) (by kernel_rfl) (fun K hK => ?_)
        simp only [Mix.pick]
        refine wpList_mapUpdate_own _ rfl (.tmp 35) (.tmp 36) (.tmp 37) 100 rfl 98 99 lawR Try.underlying100 anyE M (delE E s.n.k).length DB rfl HTB.out.2.1.mo' (by unfold maxLen; have := HLE.out; omega) (.agg (kC e.n.k)) (.pointer (some ⟨e.P, 0, none⟩)) ke rfl rfl HKE.out (.held (.pointer (some ⟨e.P, 0, none⟩))) [] rfl ?_
        intro wE hown hgr
        have kE : Ch (fun q => q = M) wA wE := (Ch.ofGrown hgr).mono (fun q _ hq => by simpa using hq.symm)
        have HEND : Hid (CA wE t M c (delE E s.n.k ++ [e]) ∧ Ch (fun q => q = M) w wE) := by
          have h0 := HTB.out
          exact ⟨h0.1.added e ke HKE.out HFD.out.1 HWF.out DB h0.2.1 (by rw [List.length_map]; exact hown) kE h0.2.2.1 h0.2.2.2.1 HFD.out.2.1 HFD.out.2.2, h0.2.2.2.2.2.trans kE (fun _ _ h => h)⟩
        replace hS : wE.cell? ⟨t, 5, none⟩ = some (.map (some M)) ∧ KeyAt wE B e.n.k := ⟨HEND.out.1.cb.mp, hS.2.ch kE (fun q => HBM.out q)⟩
        clear hown hgr kE
        go_wp2
        refine ⟨rfl, hK _ _ hS ?_⟩
        clear hK K
        refine MixH.done (by kernel_rfl) ?_
        clear hS
        go_wp2
        go_ret
        exact ⟨0, _, rfl, .inr (.inr ⟨HFU.out, s, HOLD.out, rfl, rfl⟩), HEND.out.1, HEND.out.2⟩
    · have qf : ((E.length : Int) == c.mx) = false := by simpa using hfull
      have HFU : Hid ((E.length : Int) ≠ c.mx) := hfull
      rw [qf]
      have HDW : Hid (CA wc t M c E ∧ EntAt wc e ∧ LnAt wc e.lv e.n.ln ∧ KeyAt wc B e.n.k ∧ Ch (fun q => q = M) w wc) := ⟨HE.out.1, HE.out.2.1, HE.out.2.2.1, HE.out.2.2.2.1, (Ch.ofBelow (S := fun _ => False) HE.out.2.2.2.2.1).mono (fun _ _ h => h.elim)⟩
      have HDWL : Hid (E.length ≤ E.length) := Nat.le_refl _
      obtain ⟨HDWW, hHDWW⟩ : ∃ x, x = wc := ⟨_, rfl⟩
      rw [← hHDWW] at HDW ⊢
      clear HE hHDWW qf hfull
      go_upto_region 6 with fail
      obtain ⟨DB, hDB⟩ := HDW.out.1.ma
      have HLE : Hid ((E).length ≤ 100000) := by show (E).length ≤ 100000; have := HLEN.out; have := HDWL.out; omega
      refine MixH.start (fun A => A.cell? ⟨t, 5, none⟩ = some (.map (some M)) ∧ KeyAt A B e.n.k) (by kernel_rfl) ?_
      obtain ⟨wA, hwA⟩ : ∃ wA, wA = HDWW.drew := ⟨_, rfl⟩
      have bdr : Below HDWW.heap.size HDWW wA := by rw [hwA]; exact (Below.refl _ _).drew
      have HTB : Hid (CA wA t M c (E) ∧ MA wA M DB ((E).map EV.kp) ∧ EntAt wA e ∧ LnAt wA e.lv e.n.ln ∧ KeyAt wA B e.n.k ∧ Ch (fun q => q = M) w wA) := ⟨HDW.out.1.below bdr, hDB.below bdr, EntAt.below HDW.out.2.1 bdr, (Ch.ofBelow (S := fun _ => False) bdr).owns HDW.out.2.2.1 (fun _ _ h => h), HDW.out.2.2.2.1.below bdr, HDW.out.2.2.2.2.trans (Ch.ofBelow (S := fun _ => False) bdr) (fun _ _ h => h.elim)⟩
      have hS : wA.cell? ⟨t, 5, none⟩ = some (.map (some M)) ∧ KeyAt wA B e.n.k := ⟨HTB.out.1.cb.mp, HTB.out.2.2.2.2.1⟩
      rw [← hwA]
      clear hwA bdr hDB
      refine MixH.takes [true, true, true, false, false, true] 3 (by kernel_rfl) (by kernel_rfl) (by decide) (by kernel_rfl) hS (fun K hK => ?_)
      simp only [Mix.pick]
      repeat (go_big_quiet_step (fail))
      refine wpQuiet_nil (hK _ ?_)
      clear hK K
      refine MixH.take 2 3 _ (.map (some M)) rfl (by kernel_rfl) (by kernel_rfl) (by kernel_rfl) (by kernel_rfl) (yields_map (.tmp 34) rfl ⟨t, 5, none⟩ (.map (some M)) rfl rfl (fun A hA => hA.1)) hS (fun a' ha => ?_)
      simp only [Act.put, List.setIfInBounds_toArray, List.set_cons_succ, List.set_cons_zero] at ha
      subst ha
      refine MixH.take 1 4 _ (.agg (kC e.n.k)) rfl (by kernel_rfl) (by kernel_rfl) (by kernel_rfl) (by kernel_rfl) (yields_key (.tmp 4) rfl B 0 e.n.k rfl rfl (fun A hA => hA.2.all)) hS (fun a' ha => ?_)
      simp only [Act.put, List.setIfInBounds_toArray, List.set_cons_succ, List.set_cons_zero] at ha
      subst ha
      refine MixH.one [false, false, false, false, false, false, true] 0 6 _ rfl rfl (by kernel_rfl) (by kernel_rfl) (fun K hK => ?_)
      simp only [Mix.pick]
      refine wpList_mapUpdate_own _ rfl (.tmp 35) (.tmp 36) (.tmp 37) 100 rfl 98 99 lawR Try.underlying100 anyE M (E).length DB rfl HTB.out.2.1.mo' (by unfold maxLen; have := HLE.out; omega) (.agg (kC e.n.k)) (.pointer (some ⟨e.P, 0, none⟩)) ke rfl rfl HKE.out (.held (.pointer (some ⟨e.P, 0, none⟩))) [] rfl ?_
      intro wE hown hgr
      have kE : Ch (fun q => q = M) wA wE := (Ch.ofGrown hgr).mono (fun q _ hq => by simpa using hq.symm)
      have HEND : Hid (CA wE t M c (E ++ [e]) ∧ Ch (fun q => q = M) w wE) := by
        have h0 := HTB.out
        exact ⟨h0.1.added e ke HKE.out HF.out.1 HWF.out DB h0.2.1 (by rw [List.length_map]; exact hown) kE h0.2.2.1 h0.2.2.2.1 HF.out.2.1 HF.out.2.2, h0.2.2.2.2.2.trans kE (fun _ _ h => h)⟩
      replace hS : wE.cell? ⟨t, 5, none⟩ = some (.map (some M)) ∧ KeyAt wE B e.n.k := ⟨HEND.out.1.cb.mp, hS.2.ch kE (fun q => HBM.out q)⟩
      clear hown hgr kE
      go_wp2
      refine ⟨rfl, hK _ _ hS ?_⟩
      clear hK K
      refine MixH.done (by kernel_rfl) ?_
      clear hS
      go_wp2
      go_ret
      exact ⟨0, _, rfl, .inl ⟨HFU.out, rfl, rfl⟩, HEND.out.1, HEND.out.2⟩
end Go.Proofs.Ytnpipngiehohgaa
