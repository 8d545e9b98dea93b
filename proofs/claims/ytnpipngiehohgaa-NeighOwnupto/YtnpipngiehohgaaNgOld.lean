/-
  Layer 15: oldest: the stale entry with the greatest age, of several the first.
-/
import Derived.Test.YtnpipngiehohgaaNgSg
namespace Go.Proofs.Ytnpipngiehohgaa
open Go.RowKit Go.Maps

/-- of L the entry that gives way, if there is one -/
def OldOf (L : List EV) : Option EV → Prop
  | none => ∀ a ∈ L, a.n.st ≠ 3
  | some s => s ∈ L ∧ s.n.st = 3 ∧ ∀ a ∈ L, a.n.st = 3 → a.n.ag < s.n.ag ∨ (a.n.ag = s.n.ag ∧ ¬ lt3 a.n.k s.n.k)
def olK (o : Option EV) : KV := (o.map (fun e => e.n.k)).getD kz
def olA (o : Option EV) : Int := (o.map (fun e => e.n.ag)).getD (-1)
theorem OldOf.skip {L : List EV} {o : Option EV} {e : EV} (h : OldOf L o) (hc : ¬ (e.n.st = 3 ∧ (olA o < e.n.ag ∨ (e.n.ag = olA o ∧ lt3 e.n.k (olK o))))) (ha : 0 ≤ e.n.ag) : OldOf (L ++ [e]) o := by
  cases o with
  | none =>
    intro a haL
    rcases List.mem_append.1 haL with h1 | h1
    · exact h a h1
    · simp only [List.mem_singleton] at h1; subst h1
      intro h3
      exact hc ⟨h3, .inl (by show (-1 : Int) < a.n.ag; omega)⟩
  | some s =>
    obtain ⟨h1, h2, h3⟩ := h
    refine ⟨List.mem_append_left _ h1, h2, fun a haL hst => ?_⟩
    rcases List.mem_append.1 haL with h4 | h4
    · exact h3 a h4 hst
    · simp only [List.mem_singleton] at h4; subst h4
      have hc' : ¬ (a.n.st = 3 ∧ (s.n.ag < a.n.ag ∨ (a.n.ag = s.n.ag ∧ lt3 a.n.k s.n.k))) := hc
      by_cases h5 : s.n.ag < a.n.ag
      · exact absurd ⟨hst, .inl h5⟩ hc'
      · by_cases h6 : a.n.ag = s.n.ag
        · exact .inr ⟨h6, fun h7 => hc' ⟨hst, .inr ⟨h6, h7⟩⟩⟩
        · left; omega
theorem OldOf.take {L : List EV} {o : Option EV} {e : EV} (h : OldOf L o) (h3 : e.n.st = 3) (hc : olA o < e.n.ag ∨ (e.n.ag = olA o ∧ lt3 e.n.k (olK o))) (ha : 0 ≤ e.n.ag) : OldOf (L ++ [e]) (some e) := by
  refine ⟨by simp, h3, fun a haL hst => ?_⟩
  rcases List.mem_append.1 haL with h4 | h4
  · cases o with
    | none => exact absurd hst (h a h4)
    | some s =>
      have h5 := h.2.2 a h4 hst
      have hc' : s.n.ag < e.n.ag ∨ (e.n.ag = s.n.ag ∧ lt3 e.n.k s.n.k) := hc
      rcases hc' with hc' | ⟨hc', hl⟩
      · left; omega
      · rcases h5 with h5 | ⟨h5, h6⟩
        · left; omega
        · right; exact ⟨by omega, fun h7 => h6 (lt3_trans h7 hl)⟩
  · simp only [List.mem_singleton] at h4; subst h4
    exact .inr ⟨rfl, lt3_irr _⟩
theorem OldOf.perm {L E : List EV} {o : Option EV} (h : OldOf L o) (hm : ∀ s, s ∈ L ↔ s ∈ E) : OldOf E o := by
  cases o with
  | none => exact fun a ha => h a ((hm a).2 ha)
  | some s => exact ⟨(hm s).1 h.1, h.2.1, fun a ha => h.2.2 a ((hm a).2 ha)⟩
theorem OldOf.uniq {E : List EV} {o o' : Option EV} (dj : Dj E) (hw : ∀ e ∈ E, e.n.k.Wf) (h : OldOf E o) (h' : OldOf E o') : o = o' := by
  cases o with
  | none =>
    cases o' with
    | none => rfl
    | some s => exact absurd h'.2.1 (h s h'.1)
  | some s =>
    cases o' with
    | none => exact absurd h.2.1 (h' s h.1)
    | some s' =>
      obtain ⟨h1, h2, h3⟩ := h
      obtain ⟨k1, k2, k3⟩ := h'
      have a1 := h3 s' k1 k2
      have a2 := k3 s h1 h2
      have hs : ¬ lt3 s'.n.k s.n.k ∧ ¬ lt3 s.n.k s'.n.k := by
        rcases a1 with a1 | ⟨a1, b1⟩ <;> rcases a2 with a2 | ⟨a2, b2⟩
        · omega
        · omega
        · omega
        · exact ⟨b1, b2⟩
      rcases tri s.n.k s'.n.k (hw s h1) (hw s' k1) with e | e | e
      · exact absurd e hs.2
      · exact absurd e hs.1
      · have f1 := fE_mem dj h1 e
        have f2 := fE_mem dj k1 (eqP_refl s'.n.k)
        rw [f1] at f2
        exact f2
set_option maxHeartbeats 6400000 in
set_option maxRecDepth 100000 in
theorem oldest_any (t M : Nat) (c : CF) (E : List EV) (w : World) (h : CA w t M c E) (ha : ∀ e ∈ E, 0 ≤ e.n.ag) : Calls Try.prog 66 #[.pointer (some ⟨t, 0, none⟩)] w fun r w' => ∃ o, r = .returned (.tuple #[.agg (kC (olK o)), .bool o.isSome]) ∧ OldOf E o ∧ Below w.heap.size w w' := by
  obtain ⟨D, hD⟩ := h.ma
  have k2 := key_new w kz
  have k4 := key_new (w.alloc (.cells (kC kz) 98)) kz
  rw [World.size_alloc] at k4
  obtain ⟨W, hW⟩ : ∃ W, W = (w.alloc (.cells (kC kz) 98)).alloc (.cells (kC kz) 98) := ⟨_, rfl⟩
  have bw : Below w.heap.size w W := by rw [hW]; exact ((Below.refl _ _).alloc (Nat.le_refl _) _).alloc (by simp) _
  have k2' : KeyAt W w.heap.size kz := by rw [hW]; exact k2.below ((Below.refl _ _).alloc (Nat.le_refl _) _)
  rw [← hW] at k4
  obtain ⟨O2, hO2⟩ : ∃ O, O = w.heap.size := ⟨_, rfl⟩
  obtain ⟨O4, hO4⟩ : ∃ O, O = w.heap.size + 1 := ⟨_, rfl⟩
  rw [← hO2] at k2'
  rw [← hO4] at k4
  have HW : Hid ((w.alloc (.cells (kC kz) 98)).alloc (.cells (kC kz) 98) = W ∧ w.heap.size = O2 ∧ w.heap.size + 1 = O4 ∧ W.heap.size = O4 + 1) := ⟨hW.symm, hO2.symm, hO4.symm, by rw [hW, World.size_alloc, World.size_alloc, hO4]⟩
  have HC : Hid (CA W t M c E ∧ MA W M D (E.map EV.kp) ∧ Below w.heap.size w W ∧ KeyAt W O2 kz ∧ KeyAt W O4 kz ∧ ∀ e ∈ E, 0 ≤ e.n.ag) := ⟨h.below bw, hD.below bw, bw, k2', k4, ha⟩
  have cm := HC.out.1.cb.mp
  clear h hD k2 k4 hW bw k2' hO2 hO4 ha
  go_enter Try.func66, Try.ntmps66
  go_upto_region 3 with (first | (refine wpList_alloc_key rfl rfl ?_))
  rw [HW.out.1, HW.out.2.2.1, HW.out.2.1]
  go_wp2_with (first | (refine wpList_range_own _ rfl (.tmp 11) 100 rfl 98 99 lawR Try.underlying100 anyE M E.length D rfl HC.out.2.1.mo' ?_))
  intro w2 hrg2 hg2 hs2
  have b2 : Below W.heap.size W w2 := ⟨hg2.os, hg2.tape, hg2.output, hg2.size, fun k hk => hg2.block k hk (by simp)⟩
  obtain ⟨r, hr⟩ : ∃ r, r = W.heap.size := ⟨_, rfl⟩
  rw [← hr] at hrg2 ⊢
  have HR0 : Hid (RS w2 M D E r [] (Maps.has D) (Maps.size D) ∧ CA w2 t M c E ∧ Below w.heap.size w w2 ∧ KeyAt w2 O4 (olK none) ∧ KeyAt w2 O2 kz ∧ OldOf [] none) := ⟨RS.start (HC.out.2.1.below b2) hrg2, HC.out.1.below b2, bthen HC.out.2.2.1 b2, HC.out.2.2.2.2.1.below b2, HC.out.2.2.2.1.below b2, fun a ha => by cases ha⟩
  have HRW : Hid (r = O4 + 1 ∧ O4 = O2 + 1 ∧ w.heap.size = O2) := by have := HW.out; exact ⟨by omega, by omega, by omega⟩
  clear hrg2 hg2 hs2 b2 hr cm
  go_wp2_with fail
  go_loopw [5] (fun ag wr => ∃ (o : Option EV) (L : List EV) (left : Lit → Bool) (cnt : Nat), ag = .int .i64 (olA o) ∧ Hid (RS wr M D E r L left cnt ∧ CA wr t M c E ∧ Below w.heap.size w wr ∧ KeyAt wr O4 (olK o) ∧ KeyAt wr O2 kz ∧ OldOf L o)) (fun _ wr => wr.rangeLeft M r)
  case atStart => exact ⟨none, [], _, _, rfl, HR0⟩
  case round =>
    obtain ⟨o, L, left, cnt, rfl, HR⟩ := hrel
    clear HR0
    go_wp2_with (first | (refine wpList_next_ranges (α := Value) (β := Value) _ rfl (.tmp 12) rfl 98 lawR anyE id id (fun k _ _ => ⟨k, rfl⟩) (fun v _ _ => ⟨v, rfl⟩) M r E.length D left cnt rfl HR.out.1.rg ?_ ?_))
    · intro hc0 hl0
      have hp := HR.out.1.done hl0
      have HO : Hid (OldOf E o) := HR.out.2.2.2.2.2.perm (fun s => hp.mem_iff)
      have ob : decide (olA o ≥ 0) = o.isSome := by
        cases o with
        | none => rfl
        | some s =>
          have h1 := HC.out.2.2.2.2.2 s HO.out.1
          show decide (s.n.ag ≥ 0) = true
          simpa using h1
      have HOB : Hid (decide (olA o ≥ 0) = o.isSome) := ob
      clear hc0 hl0 hp ob
      go_wp2_with (first | (refine wpList_load_key (.tmp 4) rfl O4 (olK o) rfl HR.out.2.2.2.1 rfl ?_) | (refine wpList_store_key (.tmp 2) (.tmp 50) rfl rfl O2 kz (olK o) rfl rfl HR.out.2.2.2.2.1 rfl ?_))
      intro w5 hK5 k5
      have H5 : Hid (KeyAt w5 O2 (olK o) ∧ Below w.heap.size w w5) := ⟨hK5, HR.out.2.2.1.trans (k5.below (fun q e => by have e' : q = O2 := e; have := HRW.out; omega) HR.out.2.2.1.size)⟩
      clear hK5 k5
      go_wp2_with fail
      refine bodyPost_ret (results_key_tmp rfl _ _ O2 _ rfl H5.out.1) rfl ?_
      exact ⟨o, by rw [← HOB.out]; rfl, HO.out, H5.out.2⟩
    · intro key cv kl yd yp w3 cnt3 hkey hleft hR hat hrg3 hlt3 hg3 hs3 hen
      obtain ⟨s, hsE, hkv, hcv, hnL, hfar, hRS⟩ := HR.out.1.next (y := (yd, yp)) hkey hleft hR hat hrg3 hg3
      have hcv' : cv = .pointer (some ⟨s.P, 0, none⟩) := hcv
      have hkv' : key = .agg (kC s.n.k) := hkv
      subst hcv' hkv'
      have kg := Ch.ofGrown hg3
      have hrw := HRW.out
      have b3 : Below w.heap.size w w3 := HR.out.2.2.1.trans (kg.below (fun q e => by have e' : some r = some q := e; simp at e'; omega) HR.out.2.2.1.size)
      have hCA : CA w3 t M c E := by
        refine HR.out.2.1.ch kg (fun q hq e => ?_)
        have e' : r = q := by have e2 : some r = some q := e; simpa using e2
        obtain ⟨_, _, _, _, hit⟩ := ranges_it HR.out.1.rg
        rw [e'] at hit
        rcases hq with rfl | rfl | ⟨e0, he0, rfl | h0⟩
        · have h1 := HR.out.2.1.cb; unfold CchAt at h1; rw [hit] at h1; cases h1
        · obtain ⟨es, ck, h1⟩ := HR.out.2.1.mblk; rw [hit] at h1; cases h1
        · have h1 := HR.out.2.1.en e0 he0; unfold EntAt at h1; rw [hit] at h1; cases h1
        · obtain ⟨cc, h1⟩ := (HR.out.2.1.li e0 he0).kind q h0; rw [hit] at h1; cases h1
      have hK4 : KeyAt w3 O4 (olK o) := HR.out.2.2.2.1.ch kg (fun e => by have e2 : some r = some O4 := e; simp at e2; omega)
      have hK2 : KeyAt w3 O2 kz := HR.out.2.2.2.2.1.ch kg (fun e => by have e2 : some r = some O2 := e; simp at e2; omega)
      have HX : Hid (RS w3 M D E r (L ++ [s]) (fun z => left z && !z.sameKey kl) cnt3 ∧ CA w3 t M c E ∧ Below w.heap.size w w3 ∧ KeyAt w3 O4 (olK o) ∧ KeyAt w3 O2 kz ∧ cnt3 < cnt ∧ s ∈ E) := ⟨hRS, hCA, b3, hK4, hK2, hlt3, hsE⟩
      clear hkv hcv hnL hfar hRS b3 hCA hkey hleft hR hat hrg3 hlt3 hg3 hs3 kg hrw hK4 hK2 hsE
      (try simp only [id] at hen ⊢)
      go_wp2_with (first | (refine wpList_alloc_key rfl rfl ?_) | (refine wpList_store_key (.tmp 6) (.tmp 16) rfl rfl w3.heap.size kz s.n.k rfl rfl (key_new w3 kz) rfl ?_))
      intro w4 hR4 k4
      have bz : Below w3.heap.size w3 (w3.alloc (.cells (kC kz) 98)) := (Below.refl _ _).alloc (Nat.le_refl _) _
      have b4 : Below w3.heap.size w3 w4 := bz.trans (k4.below (fun q e => by have e' : q = w3.heap.size := e; omega) bz.size)
      obtain ⟨O6, hO6⟩ : ∃ O, O = w3.heap.size := ⟨_, rfl⟩
      rw [← hO6] at hR4 ⊢
      have HO6N : Hid (O4 < O6) := by have h1 := HX.out.2.2.2.1.lt; show O4 < O6; omega
      have H4 : Hid (RS w4 M D E r (L ++ [s]) (fun z => left z && !z.sameKey kl) cnt3 ∧ CA w4 t M c E ∧ Below w.heap.size w w4 ∧ KeyAt w4 O4 (olK o) ∧ KeyAt w4 O2 kz ∧ KeyAt w4 O6 s.n.k ∧ EntAt w4 s) := ⟨HX.out.1.below b4, HX.out.2.1.below b4, bthen HX.out.2.2.1 b4, HX.out.2.2.2.1.below b4, HX.out.2.2.2.2.1.below b4, hR4, (HX.out.2.1.below b4).en s HX.out.2.2.2.2.2.2⟩
      have HAG : Hid (0 ≤ s.n.ag) := HC.out.2.2.2.2.2 s HX.out.2.2.2.2.2.2
      have HLT : Hid (cnt3 < cnt) := HX.out.2.2.2.2.2.1
      clear hR4 k4 bz b4 hen hO6 HX
      have c6 := EntAt.cell H4.out.2.2.2.2.2.2 6
      have c7 := EntAt.cell H4.out.2.2.2.2.2.2 7
      simp only [enC, List.getElem?_toArray, List.getElem?_cons_succ, List.getElem?_cons_zero] at c6 c7
      obtain ⟨st, hst⟩ : ∃ st, s.n.st = st := ⟨_, rfl⟩
      obtain ⟨ag, hag⟩ : ∃ ag, s.n.ag = ag := ⟨_, rfl⟩
      obtain ⟨oa, hoa⟩ : ∃ oa, olA o = oa := ⟨_, rfl⟩
      rw [hst] at c6
      rw [hag] at c7
      rw [hoa]
      have HV : Hid (s.n.st = st ∧ s.n.ag = ag ∧ olA o = oa) := ⟨hst, hag, hoa⟩
      clear hst hag hoa
      by_cases h3 : st = 3
      · subst h3
        by_cases hgt : oa < ag
        · have q1 : decide (ag > oa) = true := by simpa using hgt
          have HO : Hid (OldOf (L ++ [s]) (some s)) := HR.out.2.2.2.2.2.take HV.out.1 (.inl (by rw [HV.out.2.1, HV.out.2.2]; exact hgt)) HAG.out
          clear hgt
          go_upto_region 7 with fail
          refine MixH.start (fun A => KeyAt A O6 s.n.k ∧ A.cell? ⟨s.P, 7, none⟩ = some (.int .i64 ag)) (by kernel_rfl) ?_
          obtain ⟨wA, hwA⟩ : ∃ wA, wA = w4.drew := ⟨_, rfl⟩
          have bdr : Below w4.heap.size w4 wA := by rw [hwA]; exact (Below.refl _ _).drew
          have HZ4 : Hid (RS wA M D E r (L ++ [s]) (fun z => left z && !z.sameKey kl) cnt3 ∧ CA wA t M c E ∧ Below w.heap.size w wA ∧ KeyAt wA O4 (olK o) ∧ KeyAt wA O2 kz ∧ KeyAt wA O6 s.n.k ∧ EntAt wA s) := ⟨H4.out.1.below bdr, H4.out.2.1.below bdr, bthen H4.out.2.2.1 bdr, H4.out.2.2.2.1.below bdr, H4.out.2.2.2.2.1.below bdr, H4.out.2.2.2.2.2.1.below bdr, EntAt.below H4.out.2.2.2.2.2.2 bdr⟩
          have hS : KeyAt wA O6 s.n.k ∧ wA.cell? ⟨s.P, 7, none⟩ = some (.int .i64 ag) := ⟨HZ4.out.2.2.2.2.2.1, by
            have h7 := EntAt.cell HZ4.out.2.2.2.2.2.2 7
            rw [h7, ← HV.out.2.1]
            rfl⟩
          rw [← hwA]
          clear hwA bdr
          refine MixH.takes [false, true, true, true] 4 (by kernel_rfl) (by kernel_rfl) (by decide) (by kernel_rfl) hS (fun K hK => ?_)
          simp only [Mix.pick]
          repeat (go_big_quiet_step (fail))
          refine wpQuiet_nil (hK _ ?_)
          clear hK K
          refine MixH.take 3 0 _ (.agg (kC s.n.k)) rfl (by kernel_rfl) (by kernel_rfl) (by kernel_rfl) (by kernel_rfl) (yields_key (.tmp 6) rfl O6 0 s.n.k rfl rfl (fun A hA => hA.1.all)) hS (fun a' ha => ?_)
          simp only [Act.put, List.setIfInBounds_toArray, List.set_cons_succ, List.set_cons_zero] at ha
          subst ha
          refine MixH.take 2 4 _ (.int .i64 ag) rfl (by kernel_rfl) (by kernel_rfl) (by kernel_rfl) (by kernel_rfl) (yields_int (.tmp 48) rfl ⟨s.P, 7, none⟩ (.int .i64 ag) rfl rfl (fun A hA => hA.2)) hS (fun a' ha => ?_)
          simp only [Act.put, List.setIfInBounds_toArray, List.set_cons_succ, List.set_cons_zero] at ha
          subst ha
          refine MixH.one [false, false, false, false, false, true] 1 5 _ rfl rfl (by kernel_rfl) (by kernel_rfl) (fun K hK => ?_)
          simp only [Mix.pick]
          refine wpList_store_key (.tmp 4) (.tmp 45) rfl rfl O4 (olK o) s.n.k rfl rfl HZ4.out.2.2.2.1 rfl ?_
          intro wE hKE kE
          have HNE : Hid (s.P ≠ O4 ∧ O2 ≠ O4 ∧ O6 ≠ O4 ∧ r ≠ O4 ∧ w.heap.size ≤ O4 ∧ ∀ q, CB t M E q → q ≠ O4) := by
            have h1 := HZ4.out.2.2.2.1
            have h2 := HRW.out
            have hnc : ∀ q, CB t M E q → q ≠ O4 := fun q hq e => by
              unfold KeyAt at h1
              rw [← e] at h1
              rcases hq with rfl | rfl | ⟨e0, he0, rfl | h0⟩
              · have h3 := HZ4.out.2.1.cb; unfold CchAt at h3; rw [h1] at h3; simp only [Option.some.injEq, Obj.cells.injEq] at h3; exact absurd h3.2.1 (by decide)
              · obtain ⟨es, ck, h3⟩ := HZ4.out.2.1.mblk; rw [h1] at h3; cases h3
              · have h3 := HZ4.out.2.1.en e0 he0; unfold EntAt at h3; rw [h1] at h3; simp only [Option.some.injEq, Obj.cells.injEq] at h3; exact absurd h3.2.1 (by decide)
              · obtain ⟨cc, h3⟩ := (HZ4.out.2.1.li e0 he0).kind q h0; rw [h1] at h3; simp only [Option.some.injEq, Obj.cells.injEq] at h3; exact absurd h3.2.1 (by decide)
            refine ⟨fun e => ?_, by omega, ?_, by omega, by omega, hnc⟩
            · have h3 := HZ4.out.2.2.2.2.2.2
              unfold EntAt at h3
              unfold KeyAt at h1
              rw [e, h1] at h3
              simp only [Option.some.injEq, Obj.cells.injEq] at h3
              exact absurd h3.2.1 (by decide)
            · have := HO6N.out; omega
          have HEND : Hid (RS wE M D E r (L ++ [s]) (fun z => left z && !z.sameKey kl) cnt3 ∧ CA wE t M c E ∧ Below w.heap.size w wE ∧ KeyAt wE O4 s.n.k ∧ KeyAt wE O2 kz) := by
            have hn := HNE.out
            have hM : M ≠ O4 := hn.2.2.2.2.2 M (.inr (.inl rfl))
            exact ⟨HZ4.out.1.ch kE (fun e => hM e) (fun e => hn.2.2.2.1 e), HZ4.out.2.1.ch kE (fun q hq e => hn.2.2.2.2.2 q hq e), HZ4.out.2.2.1.trans (kE.below (fun q e => by have e' : q = O4 := e; omega) HZ4.out.2.2.1.size), hKE, HZ4.out.2.2.2.2.1.ch kE (fun e => hn.2.1 e)⟩
          replace hS : KeyAt wE O6 s.n.k ∧ wE.cell? ⟨s.P, 7, none⟩ = some (.int .i64 ag) := ⟨hS.1.ch kE (fun e => HNE.out.2.2.1 e), kE.cell hS.2 (fun e => HNE.out.1 e)⟩
          clear hKE kE
          go_wp2
          refine ⟨rfl, hK _ _ hS ?_⟩
          clear hK K
          refine MixH.takes [false, false, false, false, false, false, true] 0 (by kernel_rfl) (by kernel_rfl) (by decide) (by kernel_rfl) hS (fun K hK => ?_)
          simp only [Mix.pick]
          repeat (go_big_quiet_step (fail))
          refine wpQuiet_nil (hK _ ?_)
          clear hK K
          refine MixH.done (by kernel_rfl) ?_
          clear hS
          go_wp2
          go_roundw
          case rel => exact ⟨some s, L ++ [s], _, _, by show Value.int .i64 ag = Value.int .i64 s.n.ag; rw [HV.out.2.1], HEND.out.1, HEND.out.2.1, HEND.out.2.2.1, HEND.out.2.2.2.1, HEND.out.2.2.2.2, HO.out⟩
          case measure => rw [HEND.out.1.rg.left_eq, HR.out.1.rg.left_eq]; exact HLT.out
        · have q1 : decide (ag > oa) = false := by simpa using hgt
          by_cases heq : ag = oa
          · have q2 : (ag == oa) = true := by simpa using heq
            have QO : Hid _ := order_gr s.n.k (olK o) w4
            obtain ⟨ov, hov⟩ : ∃ ov, ordV s.n.k (olK o) = ov := ⟨_, rfl⟩
            rw [hov] at QO
            have HOV : Hid (ordV s.n.k (olK o) = ov) := hov
            have HEQ : Hid (ag = oa) := heq
            clear hov heq hgt
            go_wp2_with (first | (refine wpList_load_key (.tmp 6) rfl O6 s.n.k rfl H4.out.2.2.2.2.2.1 rfl ?_) | (refine wpList_load_key (.tmp 4) rfl O4 (olK o) rfl H4.out.2.2.2.1 rfl ?_))
            refine Calls.mono QO.out ?_
            rintro e w6 ⟨rfl, hg6⟩
            have b6 := hg6.1
            have H6 : Hid (RS w6 M D E r (L ++ [s]) (fun z => left z && !z.sameKey kl) cnt3 ∧ CA w6 t M c E ∧ Below w.heap.size w w6 ∧ KeyAt w6 O4 (olK o) ∧ KeyAt w6 O2 kz ∧ KeyAt w6 O6 s.n.k ∧ EntAt w6 s) := ⟨H4.out.1.below b6, H4.out.2.1.below b6, bthen H4.out.2.2.1 b6, H4.out.2.2.2.1.below b6, H4.out.2.2.2.2.1.below b6, H4.out.2.2.2.2.2.1.below b6, EntAt.below H4.out.2.2.2.2.2.2 b6⟩
            have c7 := EntAt.cell H6.out.2.2.2.2.2.2 7
            simp only [enC, List.getElem?_toArray, List.getElem?_cons_succ, List.getElem?_cons_zero] at c7
            rw [HV.out.2.1] at c7
            clear hg6 b6 QO c6 H4
            obtain ⟨w4, hw4⟩ : ∃ w4, w4 = w6 := ⟨_, rfl⟩
            rw [← hw4] at H6 c7 ⊢
            have H4 : Hid _ := H6.out
            clear H6 hw4
            by_cases hlt : ov < 0
            · have q3 : decide (ov < 0) = true := by simpa using hlt
              have HO : Hid (OldOf (L ++ [s]) (some s)) := HR.out.2.2.2.2.2.take HV.out.1 (.inr ⟨by rw [HV.out.2.1, HV.out.2.2]; exact HEQ.out, (ord_lt _ _).1 (by rw [HOV.out]; exact hlt)⟩) HAG.out
              clear hlt
              go_upto_region 7 with fail
              refine MixH.start (fun A => KeyAt A O6 s.n.k ∧ A.cell? ⟨s.P, 7, none⟩ = some (.int .i64 ag)) (by kernel_rfl) ?_
              obtain ⟨wA, hwA⟩ : ∃ wA, wA = w4.drew := ⟨_, rfl⟩
              have bdr : Below w4.heap.size w4 wA := by rw [hwA]; exact (Below.refl _ _).drew
              have HZ4 : Hid (RS wA M D E r (L ++ [s]) (fun z => left z && !z.sameKey kl) cnt3 ∧ CA wA t M c E ∧ Below w.heap.size w wA ∧ KeyAt wA O4 (olK o) ∧ KeyAt wA O2 kz ∧ KeyAt wA O6 s.n.k ∧ EntAt wA s) := ⟨H4.out.1.below bdr, H4.out.2.1.below bdr, bthen H4.out.2.2.1 bdr, H4.out.2.2.2.1.below bdr, H4.out.2.2.2.2.1.below bdr, H4.out.2.2.2.2.2.1.below bdr, EntAt.below H4.out.2.2.2.2.2.2 bdr⟩
              have hS : KeyAt wA O6 s.n.k ∧ wA.cell? ⟨s.P, 7, none⟩ = some (.int .i64 ag) := ⟨HZ4.out.2.2.2.2.2.1, by
                have h7 := EntAt.cell HZ4.out.2.2.2.2.2.2 7
                rw [h7, ← HV.out.2.1]
                rfl⟩
              rw [← hwA]
              clear hwA bdr
              refine MixH.takes [false, true, true, true] 4 (by kernel_rfl) (by kernel_rfl) (by decide) (by kernel_rfl) hS (fun K hK => ?_)
              simp only [Mix.pick]
              repeat (go_big_quiet_step (fail))
              refine wpQuiet_nil (hK _ ?_)
              clear hK K
              refine MixH.take 3 0 _ (.agg (kC s.n.k)) rfl (by kernel_rfl) (by kernel_rfl) (by kernel_rfl) (by kernel_rfl) (yields_key (.tmp 6) rfl O6 0 s.n.k rfl rfl (fun A hA => hA.1.all)) hS (fun a' ha => ?_)
              simp only [Act.put, List.setIfInBounds_toArray, List.set_cons_succ, List.set_cons_zero] at ha
              subst ha
              refine MixH.take 2 4 _ (.int .i64 ag) rfl (by kernel_rfl) (by kernel_rfl) (by kernel_rfl) (by kernel_rfl) (yields_int (.tmp 48) rfl ⟨s.P, 7, none⟩ (.int .i64 ag) rfl rfl (fun A hA => hA.2)) hS (fun a' ha => ?_)
              simp only [Act.put, List.setIfInBounds_toArray, List.set_cons_succ, List.set_cons_zero] at ha
              subst ha
              refine MixH.one [false, false, false, false, false, true] 1 5 _ rfl rfl (by kernel_rfl) (by kernel_rfl) (fun K hK => ?_)
              simp only [Mix.pick]
              refine wpList_store_key (.tmp 4) (.tmp 45) rfl rfl O4 (olK o) s.n.k rfl rfl HZ4.out.2.2.2.1 rfl ?_
              intro wE hKE kE
              have HNE : Hid (s.P ≠ O4 ∧ O2 ≠ O4 ∧ O6 ≠ O4 ∧ r ≠ O4 ∧ w.heap.size ≤ O4 ∧ ∀ q, CB t M E q → q ≠ O4) := by
                have h1 := HZ4.out.2.2.2.1
                have h2 := HRW.out
                have hnc : ∀ q, CB t M E q → q ≠ O4 := fun q hq e => by
                  unfold KeyAt at h1
                  rw [← e] at h1
                  rcases hq with rfl | rfl | ⟨e0, he0, rfl | h0⟩
                  · have h3 := HZ4.out.2.1.cb; unfold CchAt at h3; rw [h1] at h3; simp only [Option.some.injEq, Obj.cells.injEq] at h3; exact absurd h3.2.1 (by decide)
                  · obtain ⟨es, ck, h3⟩ := HZ4.out.2.1.mblk; rw [h1] at h3; cases h3
                  · have h3 := HZ4.out.2.1.en e0 he0; unfold EntAt at h3; rw [h1] at h3; simp only [Option.some.injEq, Obj.cells.injEq] at h3; exact absurd h3.2.1 (by decide)
                  · obtain ⟨cc, h3⟩ := (HZ4.out.2.1.li e0 he0).kind q h0; rw [h1] at h3; simp only [Option.some.injEq, Obj.cells.injEq] at h3; exact absurd h3.2.1 (by decide)
                refine ⟨fun e => ?_, by omega, ?_, by omega, by omega, hnc⟩
                · have h3 := HZ4.out.2.2.2.2.2.2
                  unfold EntAt at h3
                  unfold KeyAt at h1
                  rw [e, h1] at h3
                  simp only [Option.some.injEq, Obj.cells.injEq] at h3
                  exact absurd h3.2.1 (by decide)
                · have := HO6N.out; omega
              have HEND : Hid (RS wE M D E r (L ++ [s]) (fun z => left z && !z.sameKey kl) cnt3 ∧ CA wE t M c E ∧ Below w.heap.size w wE ∧ KeyAt wE O4 s.n.k ∧ KeyAt wE O2 kz) := by
                have hn := HNE.out
                have hM : M ≠ O4 := hn.2.2.2.2.2 M (.inr (.inl rfl))
                exact ⟨HZ4.out.1.ch kE (fun e => hM e) (fun e => hn.2.2.2.1 e), HZ4.out.2.1.ch kE (fun q hq e => hn.2.2.2.2.2 q hq e), HZ4.out.2.2.1.trans (kE.below (fun q e => by have e' : q = O4 := e; omega) HZ4.out.2.2.1.size), hKE, HZ4.out.2.2.2.2.1.ch kE (fun e => hn.2.1 e)⟩
              replace hS : KeyAt wE O6 s.n.k ∧ wE.cell? ⟨s.P, 7, none⟩ = some (.int .i64 ag) := ⟨hS.1.ch kE (fun e => HNE.out.2.2.1 e), kE.cell hS.2 (fun e => HNE.out.1 e)⟩
              clear hKE kE
              go_wp2
              refine ⟨rfl, hK _ _ hS ?_⟩
              clear hK K
              refine MixH.takes [false, false, false, false, false, false, true] 0 (by kernel_rfl) (by kernel_rfl) (by decide) (by kernel_rfl) hS (fun K hK => ?_)
              simp only [Mix.pick]
              repeat (go_big_quiet_step (fail))
              refine wpQuiet_nil (hK _ ?_)
              clear hK K
              refine MixH.done (by kernel_rfl) ?_
              clear hS
              go_wp2
              go_roundw
              case rel => exact ⟨some s, L ++ [s], _, _, by show Value.int .i64 ag = Value.int .i64 s.n.ag; rw [HV.out.2.1], HEND.out.1, HEND.out.2.1, HEND.out.2.2.1, HEND.out.2.2.2.1, HEND.out.2.2.2.2, HO.out⟩
              case measure => rw [HEND.out.1.rg.left_eq, HR.out.1.rg.left_eq]; exact HLT.out
            · have q3 : decide (ov < 0) = false := by simpa using hlt
              have HO : Hid (OldOf (L ++ [s]) o) := HR.out.2.2.2.2.2.skip (fun hh => by
                rcases hh.2 with g | ⟨_, g⟩
                · rw [HV.out.2.1, HV.out.2.2] at g; have := HEQ.out; omega
                · exact hlt (by rw [← HOV.out]; exact (ord_lt _ _).2 g)) HAG.out
              clear hlt
              go_wp2_with fail
              go_roundw
              case rel => exact ⟨o, L ++ [s], _, _, by rw [HV.out.2.2], H4.out.1, H4.out.2.1, H4.out.2.2.1, H4.out.2.2.2.1, H4.out.2.2.2.2.1, HO.out⟩
              case measure => rw [H4.out.1.rg.left_eq, HR.out.1.rg.left_eq]; exact HLT.out
          · have q2 : (ag == oa) = false := by simpa using heq
            have HO : Hid (OldOf (L ++ [s]) o) := HR.out.2.2.2.2.2.skip (fun hh => by
              rcases hh.2 with g | ⟨g, _⟩
              · rw [HV.out.2.1, HV.out.2.2] at g; omega
              · rw [HV.out.2.1, HV.out.2.2] at g; omega) HAG.out
            clear heq hgt
            go_wp2_with fail
            go_roundw
            case rel => exact ⟨o, L ++ [s], _, _, by rw [HV.out.2.2], H4.out.1, H4.out.2.1, H4.out.2.2.1, H4.out.2.2.2.1, H4.out.2.2.2.2.1, HO.out⟩
            case measure => rw [H4.out.1.rg.left_eq, HR.out.1.rg.left_eq]; exact HLT.out
      · have q0 : (st == 3) = false := by simpa using h3
        have HO : Hid (OldOf (L ++ [s]) o) := HR.out.2.2.2.2.2.skip (fun hh => h3 (by rw [← HV.out.1]; exact hh.1)) HAG.out
        clear h3
        go_wp2_with fail
        go_roundw
        case rel => exact ⟨o, L ++ [s], _, _, by rw [HV.out.2.2], H4.out.1, H4.out.2.1, H4.out.2.2.1, H4.out.2.2.2.1, H4.out.2.2.2.2.1, HO.out⟩
        case measure => rw [H4.out.1.rg.left_eq, HR.out.1.rg.left_eq]; exact HLT.out
end Go.Proofs.Ytnpipngiehohgaa
