/-
  Layer 18: take.
-/
import Derived.Test.YtclkcpdghpaboaaQF7
namespace Go.Proofs.Ytclkcpdghpaboaa
open Go.RowKit

theorem up_up (f : Nat → Int) (i : Nat) (a b : Int) : up (up f i a) i b = up f i b := funext fun j => by unfold up; split <;> rfl
theorem qb_same {P G : Nat} {ms : List CM} {i : Nat} {m m' : CM} (hi : ms[i]? = some m) (hv : m'.v = m.v) : ∀ q, QB P G (ms.set i m') q → QB P G ms q := by
  rintro q (h | h | ⟨x, hx, h⟩)
  · exact .inl h
  · exact .inr (.inl h)
  · rcases List.mem_or_eq_of_mem_set hx with h1 | rfl
    · exact .inr (.inr ⟨x, h1, h⟩)
    · exact .inr (.inr ⟨m, List.mem_of_getElem? hi, by rw [← hv]; exact h⟩)
section
variable (P G : Nat) (ms : List CM) (t : TN) (w : World) (h : QQ w P G ms t) (u : TN) (hu : QOk (csOf ms) u) (m : CM) (hi : ms[u.at']? = some m)
include h hu hi
set_option maxHeartbeats 1600000 in
set_option maxRecDepth 100000 in
theorem take_any (x : Int × Int) (L : List (Int × Int)) (hL : m.c.L = x :: L) (hr : m.c.rdy = true) (hd : x.2 ≤ u.de u.at') (hg : u.gv = true) : Calls Try.prog 47 #[.pointer (some ⟨P, 0, none⟩), .agg (tnA u)] w fun e w' => ∃ ms', e = .returned (.int .i64 x.1) ∧ QQ w' P G ms' (popD (csOf ms) u) ∧ csOf ms' = popCs (csOf ms) u ∧ Ch (QB P G ms) w w' ∧ ∀ q, QB P G ms' q → QB P G ms q := by
  obtain ⟨i, hie⟩ : ∃ i, u.at' = i := ⟨_, rfl⟩
  rw [hie] at hi hd
  obtain ⟨n, hn⟩ : ∃ n, n = ms.length := ⟨_, rfl⟩
  have hin : i < n := by rw [hn]; exact (List.getElem?_eq_some_iff.1 hi).1
  have hn8 : n ≤ 8 := by rw [hn]; exact h.len.2
  have hi8 : i < 8 := by omega
  have hm := List.mem_of_getElem? hi
  have hc := h.c hm
  have hx := hc.el x (by rw [hL]; exact List.mem_cons_self)
  have hb := h.by' m hm
  have hsz : 0 ≤ szL m.c.L := by
    have key : ∀ L : List (Int × Int), (∀ x ∈ L, 1 ≤ x.2 ∧ x.2 ≤ 65535) → 0 ≤ szL L := by
      intro L
      induction L with
      | nil => intro _; exact Int.le_refl _
      | cons y L ih => intro hy; have h1 := hy y List.mem_cons_self; have h2 := ih (fun z hz => hy z (List.mem_cons_of_mem _ hz)); simp only [szL]; omega
    exact key _ hc.el
  have hbb : 0 ≤ m.b ∧ m.b ≤ 100000000 := by have := hc.sz; have := hc.li.by'; rw [hb]; omega
  have htk : 0 < m.c.li.ra → 0 ≤ m.c.tk ∧ m.c.tk ≤ 268435456 := fun hr' => by have h1 := hc.tk hr'; have h2 := hc.li.bu hr'; omega
  have hup := hu.tn.up i hi8
  have hcs := csOf_at hi
  have HPO : Hid (QOk (popCs (csOf ms) u) (popD (csOf ms) u)) := pop_ok hu (by rw [hie, hcs]; exact hr) (by rw [hie, hcs, hL]; exact hd) hg
  have HPD : Hid (popD (csOf ms) u = ⟨u.at', u.gv, up u.de i (if wtB L then u.de i - x.2 else 0)⟩) := by
    show _ = _
    unfold popD
    rw [hie, hcs, hL]
    rfl
  have HH : Hid (QA w P G ms t ∧ u.at' = i ∧ ms[i]? = some m ∧ n = ms.length ∧ m.c.L = x :: L ∧ i < 8 ∧ (∀ m ∈ ms, m.b = szL m.c.L) ∧ cAt (csOf ms) i = m.c) := ⟨h.qa, hie, hi, hn, hL, hi8, h.by', hcs⟩
  have HLC : Hid ((1 ≤ x.2 ∧ x.2 ≤ 65535) ∧ (0 ≤ m.b ∧ m.b ≤ 100000000) ∧ (0 < m.c.li.ra → 0 ≤ m.c.tk ∧ m.c.tk ≤ 268435456)) := ⟨hx, hbb, htk⟩
  have wd : IntKind.i64.wrap (u.de i - x.2) = u.de i - x.2 := i64_s _ (by omega) (by omega)
  have k0 : (0 : Int) ≤ (i : Int) := by omega
  have k1 : (i : Int) < (n : Int) := by omega
  have k2 : ((i : Int)).toNat = i := by omega
  have k3 : (i : Int) < 8 := by omega
  clear h hu hi hn hL hie hr hd hg hm hc hx hb hsz hbb htk hup hcs hi8
  have hb := trn_new w u
  have bel : Below w.heap.size w (w.alloc (.cells (tnA u) 102)) := (Below.refl _ _).alloc (Nat.le_refl _) _
  obtain ⟨CX, hC⟩ : ∃ C, C = tnA u := ⟨_, rfl⟩
  obtain ⟨W, hW⟩ : ∃ W_, W_ = w.alloc (.cells (tnA u) 102) := ⟨_, rfl⟩
  rw [← hW] at hb bel
  have HSZX : Hid (W.heap.size = w.heap.size + 1) := by show _ = _; rw [hW, World.size_alloc]
  obtain ⟨B, hB⟩ : ∃ B, B = w.heap.size := ⟨_, rfl⟩
  rw [← hB] at hb
  have HBX : Hid (TrnAt W B u) := hb
  rw [← hC] at hW ⊢
  have HOX : Hid (w.heap.size = B) := hB.symm
  have HLX : Hid (Below w.heap.size w W) := bel
  have HWX : Hid (w.alloc (.cells CX 102) = W) := hW.symm
  clear hb hW hB hC bel

  have HT : Hid (TQ W P G ms t B u) := ⟨HH.out.1.below HLX.out, HBX.out⟩
  go_enter Try.func47, Try.ntmps47
  go_upto_region 1 with fail
  rw [HOX.out, HWX.out]
  refine MixH.start (fun A => TQ A P G ms t B u) (by kernel_rfl) ?_
  obtain ⟨wA, hwA⟩ : ∃ W_, W_ = W.drew := ⟨_, rfl⟩
  have bdr : Below W.heap.size W wA := by rw [hwA]; exact (Below.refl _ _).drew
  have hS : TQ wA P G ms t B u := HT.out.below bdr
  have HA : Hid (TQ wA P G ms t B u ∧ Below w.heap.size w wA) := ⟨hS, bthen HLX.out bdr⟩
  rw [← hwA]
  clear hwA bdr
  refine MixH.takes [true, true, true, false, true] 4 (by kernel_rfl) (by kernel_rfl) (by decide) (by kernel_rfl) hS (fun K hK => ?_)
  simp only [Mix.pick]
  repeat (go_big_quiet_step (fail))
  refine wpQuiet_nil (hK _ ?_)
  clear hK K
  refine MixH.take 3 3 _ (.slice (some ⟨G, 0, none⟩) n n) rfl (by kernel_rfl) (by kernel_rfl) (by kernel_rfl) (by kernel_rfl) (yields_cls (.tmp 9) rfl ⟨P, 0, none⟩ (.slice (some ⟨G, 0, none⟩) n n) rfl rfl (fun A hA => (hA.qa.qb.cell 0).trans (by rw [HH.out.2.2.2.1]; rfl))) hS (fun a' ha => ?_)
  simp only [Act.put, List.setIfInBounds_toArray, List.set_cons_succ, List.set_cons_zero] at ha
  subst ha
  refine MixH.take 2 5 _ (.int .i64 (i : Int)) rfl (by kernel_rfl) (by kernel_rfl) (by kernel_rfl) (by kernel_rfl) (yields_int (.tmp 11) rfl ⟨B, 0, none⟩ (.int .i64 (i : Int)) rfl rfl (fun A hA => (hA.tb.cell 0).trans (by rw [← HH.out.2.1]; rfl))) hS (fun a' ha => ?_)
  simp only [Act.put, List.setIfInBounds_toArray, List.set_cons_succ, List.set_cons_zero] at ha
  subst ha
  refine MixH.takes [false, false, false, false, false, false, true, true] 0 (by kernel_rfl) (by kernel_rfl) (by decide) (by kernel_rfl) hS (fun K hK => ?_)
  simp only [Mix.pick]
  repeat (go_big_quiet_step (fail))
  refine wpQuiet_nil (hK _ ?_)
  clear hK K
  refine MixH.done (by kernel_rfl) ?_
  clear hS
  have QL : Hid _ := leaveC_any wA P G ms t HA.out.1.qa i m HH.out.2.2.1 x L HH.out.2.2.2.2.1 HLC.out.1 HLC.out.2.1 HLC.out.2.2
  go_upto_region 2 with fail
  go_wp2_with fail
  refine Calls.mono QL.out ?_
  rintro e2 w2 ⟨m', rfl, q2, hc2, hb2, hv2, k2'⟩
  have HM : Hid (m'.c = takeC m.c ∧ m'.b = m.b - x.2 ∧ m'.v = m.v) := ⟨hc2, hb2, hv2⟩
  have HZ2 : Hid (TQ w2 P G (ms.set i m') t B u ∧ Ch (QB P G ms) w w2) := by
    have hk := k2'.mono (T := QB P G ms) (fun q _ e => qb_own HH.out.2.2.1 q e)
    exact ⟨⟨q2, HA.out.1.tb.ch hk HA.out.1.nb⟩, (Ch.ofBelow HA.out.2).trans hk (fun _ _ e => e)⟩
  clear q2 hc2 hb2 hv2 k2' QL
  have HBY : Hid (∀ y ∈ ms.set i m', y.b = szL y.c.L) := fun y hy => by
    rcases List.mem_or_eq_of_mem_set hy with h1 | rfl
    · exact HH.out.2.2.2.2.2.2.1 y h1
    · rw [HM.out.1, HM.out.2.1, HH.out.2.2.2.2.2.2.1 m (List.mem_of_getElem? HH.out.2.2.1)]
      show _ = szL m.c.L.tail
      rw [szL_tail, HH.out.2.2.2.2.1]
      rfl
  have HCS : Hid (csOf (ms.set i m') = popCs (csOf ms) u) := by
    show _ = _
    rw [csOf_set, HM.out.1]
    unfold popCs
    rw [HH.out.2.1, HH.out.2.2.2.2.2.2.2]
  obtain ⟨X, hY⟩ : ∃ Y_, Y_ = w2.alloc (.cells (itA iz) 119) := ⟨_, rfl⟩
  have bY : Below w2.heap.size w2 X := by rw [hY]; exact (Below.refl _ _).alloc (Nat.le_refl _) _
  obtain ⟨V, hO⟩ : ∃ O, O = w2.heap.size := ⟨_, rfl⟩
  have HNV : Hid (ItmAt X V iz) := by show ItmAt X V iz; rw [hY, hO]; exact itm_new w2 iz
  have HLV : Hid (Below w2.heap.size w2 X) := bY
  have HEV : Hid (w2.alloc (.cells #[.int .i64 0, .int .i64 0] 119) = X) := hY.symm
  have HOV : Hid (w2.heap.size = V) := hO.symm
  clear hY bY hO

  go_wp2_with (first | (refine wpList_store_itm (.tmp 6) (.tmp 15) rfl rfl w2.heap.size iz x rfl rfl (itm_new w2 iz) rfl ?_))
  intro w3 h3 k3'
  have HZ3 : Hid (TQ w3 P G (ms.set i m') t B u ∧ ItmAt w3 V x ∧ Ch (QB P G ms) w w3 ∧ V ≠ B) := by
    have k4 : Ch (fun q => q = V) X w3 := by rw [← HOV.out, ← HEV.out]; exact k3'
    have hv := HOV.out
    have hsz := HZ2.out.2.size
    have hB := HZ2.out.1.tb.lt
    refine ⟨⟨(HZ2.out.1.qa.below HLV.out).ch k4 (fun q hq e => by have := HZ2.out.1.qa.lt q hq; omega), (HZ2.out.1.tb.below HLV.out).ch k4 (by omega)⟩, by rw [← HOV.out]; exact h3, (HZ2.out.2.trans (Ch.ofBelow (S := fun _ => False) HLV.out) (fun _ _ e => e.elim)).trans k4 (fun q hq e => by omega), by omega⟩
  rw [HOV.out]
  clear h3 k3' HZ2 HNV HLV HEV
  have c0 : w3.cell? ⟨B, 0, none⟩ = some (.int .i64 (i : Int)) := (HZ3.out.1.tb.cell 0).trans (by rw [← HH.out.2.1]; rfl)
  have cd : w3.cell? ⟨B, 2 + i, none⟩ = some (.int .i64 (u.de i)) := HZ3.out.1.tb.dc i HH.out.2.2.2.2.2.1
  have zd := HZ3.out.1.tb.fz (2 + i)
  have zd' : w3.drew.frozen? ⟨B, 2 + i, none⟩ = false := zd
  have i1 : w3.cell? ⟨V, 1, none⟩ = some (.int .i64 x.2) := HZ3.out.2.1.cell 1
  obtain ⟨w4, hw4⟩ : ∃ w4, w4 = (w3.setCell ⟨B, 2 + i, none⟩ (.int .i64 (u.de i - x.2))).drew := ⟨_, rfl⟩
  have HW4 : Hid ((w3.setCell ⟨B, 2 + i, none⟩ (.int .i64 (u.de i - x.2))).drew = w4) := hw4.symm
  have HZ4 : Hid (TQ w4 P G (ms.set i m') t B ⟨u.at', u.gv, up u.de i (u.de i - x.2)⟩ ∧ ItmAt w4 V x ∧ Ch (QB P G ms) w w4) := by
    have s1 := HZ3.out.1.setd i HH.out.2.2.2.2.2.1 (u.de i - x.2)
    rw [hw4]
    exact ⟨s1.1.below (Below.refl _ _).drew, (HZ3.out.2.1.ch s1.2 (fun e => HZ3.out.2.2.2 e)).below (Below.refl _ _).drew, (HZ3.out.2.2.1.trans s1.2 (fun q hq e => by have := HA.out.1.tb.lt; have h5 := HOX.out; omega)).drew⟩
  have hi4 : (ms.set i m')[i]? = some m' := set_same (List.getElem?_eq_some_iff.1 HH.out.2.2.1).1
  have QW : Hid _ := waits_any w4 P G (ms.set i m') t HZ4.out.1.qa i m' hi4
  have HWT : Hid (wtB m'.c.L = wtB L) := by show _ = _; rw [HM.out.1]; show wtB m.c.L.tail = _; rw [HH.out.2.2.2.2.1]; rfl
  rw [HWT.out] at QW
  obtain ⟨wb, hwb⟩ : ∃ wb, wtB L = wb := ⟨_, rfl⟩
  have HWB : Hid (wtB L = wb) := hwb
  rw [hwb] at QW
  clear hw4 hi4 hwb
  go_upto_region 3 with fail
  go_region
  rw [HW4.out]
  clear c0 cd zd zd' i1
  go_upto_region 4 with fail
  go_wp2_with fail
  refine Calls.mono QW.out ?_
  rintro e5 w5 ⟨rfl, rfl⟩
  clear QW
  cases wb with
  | true =>
    have HZ5 : Hid (TQ w4 P G (ms.set i m') t B (popD (csOf ms) u) ∧ ItmAt w4 V x ∧ Ch (QB P G ms) w w4) := by
      refine ⟨?_, HZ4.out.2⟩
      rw [HPD.out, HWB.out]
      exact HZ4.out.1
    go_upto_region 6 with fail
    go_wp2_with (first | (refine wpList_load_trn (.tmp 3) rfl B (popD (csOf ms) u) rfl HZ5.out.1.tb rfl ?_) | (refine wpList_store_tq (.tmp 36) (.tmp 34) rfl rfl P (.slice (some ⟨G, 0, none⟩) (ms.set i m').length (ms.set i m').length) t (popD (csOf ms) u) rfl rfl HZ5.out.1.qa.qb rfl ?_))
    intro w8 h8 k8
    have HPV : Hid (V ≠ P) := fun e => by
      have h1 := HZ5.out.2.1
      have h2 := HZ5.out.1.qa.qb
      unfold ItmAt at h1
      unfold QueAt at h2
      rw [e, h2] at h1
      simp only [Option.some.injEq, Obj.cells.injEq] at h1
      exact absurd h1.2.1 (by decide)
    have HZ8 : Hid (QA w8 P G (ms.set i m') (popD (csOf ms) u) ∧ ItmAt w8 V x ∧ Ch (QB P G ms) w w8) := ⟨HZ5.out.1.qa.turn h8 k8, HZ5.out.2.1.ch k8 HPV.out, HZ5.out.2.2.trans k8 (fun _ _ e => .inl e)⟩
    have n0 : w8.cell? ⟨V, 0, none⟩ = some (.int .i64 x.1) := HZ8.out.2.1.cell 0
    clear h8 k8
    go_wp2
    go_ret
    exact ⟨ms.set i m', rfl, ⟨HZ8.out.1, HBY.out, by rw [HCS.out]; exact HPO.out⟩, HCS.out, HZ8.out.2.2, qb_same HH.out.2.2.1 HM.out.2.2⟩
  | false =>
    have c0 : w4.cell? ⟨B, 0, none⟩ = some (.int .i64 (i : Int)) := (HZ4.out.1.tb.cell 0).trans (by rw [← HH.out.2.1]; rfl)
    have cd : w4.cell? ⟨B, 2 + i, none⟩ = some (.int .i64 (up u.de i (u.de i - x.2) i)) := HZ4.out.1.tb.dc i HH.out.2.2.2.2.2.1
    have zd := HZ4.out.1.tb.fz (2 + i)
    obtain ⟨w5, hw5⟩ : ∃ w5, w5 = w4.setCell ⟨B, 2 + i, none⟩ (.int .i64 0) := ⟨_, rfl⟩
    have HW5 : Hid (w4.setCell ⟨B, 2 + i, none⟩ (.int .i64 0) = w5) := hw5.symm
    have HVB : Hid (V ≠ B) := HZ3.out.2.2.2
    have HZ5 : Hid (TQ w5 P G (ms.set i m') t B (popD (csOf ms) u) ∧ ItmAt w5 V x ∧ Ch (QB P G ms) w w5) := by
      have s1 := HZ4.out.1.setd i HH.out.2.2.2.2.2.1 0
      have e1 : (⟨u.at', u.gv, up (up u.de i (u.de i - x.2)) i 0⟩ : TN) = popD (csOf ms) u := by rw [HPD.out, HWB.out, up_up]; rfl
      rw [hw5, ← e1]
      exact ⟨s1.1, HZ4.out.2.1.ch s1.2 HVB.out, HZ4.out.2.2.trans s1.2 (fun q hq e => by have := HA.out.1.tb.lt; have h5 := HOX.out; omega)⟩
    clear hw5
    go_upto_region 6 with fail
    rw [HW5.out]
    clear c0 cd zd
    go_wp2_with (first | (refine wpList_load_trn (.tmp 3) rfl B (popD (csOf ms) u) rfl HZ5.out.1.tb rfl ?_) | (refine wpList_store_tq (.tmp 36) (.tmp 34) rfl rfl P (.slice (some ⟨G, 0, none⟩) (ms.set i m').length (ms.set i m').length) t (popD (csOf ms) u) rfl rfl HZ5.out.1.qa.qb rfl ?_))
    intro w8 h8 k8
    have HPV : Hid (V ≠ P) := fun e => by
      have h1 := HZ5.out.2.1
      have h2 := HZ5.out.1.qa.qb
      unfold ItmAt at h1
      unfold QueAt at h2
      rw [e, h2] at h1
      simp only [Option.some.injEq, Obj.cells.injEq] at h1
      exact absurd h1.2.1 (by decide)
    have HZ8 : Hid (QA w8 P G (ms.set i m') (popD (csOf ms) u) ∧ ItmAt w8 V x ∧ Ch (QB P G ms) w w8) := ⟨HZ5.out.1.qa.turn h8 k8, HZ5.out.2.1.ch k8 HPV.out, HZ5.out.2.2.trans k8 (fun _ _ e => .inl e)⟩
    have n0 : w8.cell? ⟨V, 0, none⟩ = some (.int .i64 x.1) := HZ8.out.2.1.cell 0
    clear h8 k8
    go_wp2
    go_ret
    exact ⟨ms.set i m', rfl, ⟨HZ8.out.1, HBY.out, by rw [HCS.out]; exact HPO.out⟩, HCS.out, HZ8.out.2.2, qb_same HH.out.2.2.1 HM.out.2.2⟩
end
end Go.Proofs.Ytclkcpdghpaboaa
