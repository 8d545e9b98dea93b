/-
  Layer 15's reference: room.
-/
import Derived.Test.YtialefdojeddjaaNrFn4
namespace Go.Proofs.Ytialefdojeddjaa
open Go.RowKit Go.Maps

/-- the stale entry of the first i that gives way -/
def OldI (R : List RE) (i : Nat) : Option Nat → Prop
  | none => ∀ j r, j < i → R[j]? = some r → r.n.st ≠ 3
  | some k => k < i ∧ ∃ s, R[k]? = some s ∧ s.n.st = 3 ∧ ∀ j r, j < i → R[j]? = some r → r.n.st = 3 → r.n.ag ≤ s.n.ag ∧ (j < k → r.n.ag < s.n.ag)
def kI (o : Option Nat) : Int := match o with | none => -1 | some k => (k : Int)
theorem OldI.skip {R : List RE} {i : Nat} {o : Option Nat} {e : RE} (h : OldI R i o) (he : R[i]? = some e) (hs : e.n.st ≠ 3 ∨ ∃ k s, o = some k ∧ R[k]? = some s ∧ e.n.ag ≤ s.n.ag) : OldI R (i + 1) o := by
  cases o with
  | none =>
    intro j r hj hr
    by_cases hji : j = i
    · subst hji
      rw [he] at hr
      cases hr
      rcases hs with hs | ⟨k, s, hk, _⟩
      · exact hs
      · cases hk
    · exact h j r (by omega) hr
  | some k =>
    obtain ⟨hk, s, hsk, hst, hall⟩ := h
    refine ⟨by omega, s, hsk, hst, fun j r hj hr hr3 => ?_⟩
    by_cases hji : j = i
    · subst hji
      rw [he] at hr
      cases hr
      rcases hs with hs | ⟨k', s', hk', hs', hag⟩
      · exact absurd hr3 hs
      · cases hk'
        rw [hsk] at hs'
        cases hs'
        exact ⟨hag, fun h => by omega⟩
    · exact hall j r (by omega) hr hr3
theorem OldI.took {R : List RE} {i : Nat} {o : Option Nat} {e : RE} (h : OldI R i o) (he : R[i]? = some e) (hst : e.n.st = 3) (hs : ∀ k s, o = some k → R[k]? = some s → s.n.ag < e.n.ag) : OldI R (i + 1) (some i) := by
  refine ⟨by omega, e, he, hst, fun j r hj hr hr3 => ?_⟩
  by_cases hji : j = i
  · subst hji
    rw [he] at hr
    cases hr
    exact ⟨Int.le_refl _, fun h => by omega⟩
  · cases o with
    | none => exact absurd hr3 (h j r (by omega) hr)
    | some k =>
      obtain ⟨hk, s, hsk, _, hall⟩ := h
      have h1 := hs k s rfl hsk
      have h2 := (hall j r (by omega) hr hr3).1
      exact ⟨by omega, fun _ => by omega⟩
theorem RchAt.setl {w : World} {B : Nat} {rc : RC} (h : RchAt w B rc) (la : Option Addr) (n lc : Nat) : RchAt (w.setCell ⟨B, 5, none⟩ (.slice la n lc)) B ⟨rc.c, la, n, lc⟩ := by
  unfold RchAt at h ⊢
  rw [heap_setCell_same w B 5 _ _ _ h]
  rfl
/-- a list of entries does not lie where a cache lies -/
theorem el_rch {w : World} {base B : Nat} {v : Value} {L : List RE} {rc : RC} (h : EL w base v L) (hb : RchAt w B rc) (g : Nat) (hg : v.ownBlock = some g) (e : g = B) : False := by
  obtain ⟨_, _, cc, hcc⟩ := h.cells g hg
  unfold RchAt at hb
  rw [e, hb] at hcc
  simp only [Option.some.injEq, Obj.cells.injEq] at hcc
  exact absurd hcc.2.1 (by decide)
/-- what room does -/
def RoomP (rc : RC) (R : List RE) (w : World) (r : Ending) (w' : World) : Prop :=
  Below w.heap.size w w' ∧ (((rc.n : Int) < rc.c.mx ∧ r = .returned (.tuple #[.agg (rcC rc), .bool true])) ∨ (¬ (rc.n : Int) < rc.c.mx ∧ OldI R rc.n none ∧ r = .returned (.tuple #[.agg (rcC rc), .bool false])) ∨
    (¬ (rc.n : Int) < rc.c.mx ∧ ∃ k la lc, OldI R rc.n (some k) ∧ r = .returned (.tuple #[.agg (rcC ⟨rc.c, la, (R.take k ++ R.drop (k + 1)).length, lc⟩), .bool true]) ∧ EL w' w.heap.size (.slice la (R.take k ++ R.drop (k + 1)).length lc) (R.take k ++ R.drop (k + 1))))
set_option maxHeartbeats 6400000 in
set_option maxRecDepth 100000 in
theorem rroom_any (rc : RC) (R : List RE) (w : World) (hR : ER w rc.la R) (hn : R.length = rc.n) (hl : rc.n ≤ 9000) (hc : rc.n ≤ rc.lc) (hc2 : rc.lc ≤ 9223372036854775807) : Calls Try.prog 94 #[.agg (rcC rc)] w fun r w' => RoomP rc R w r w' := by
  have hb := rch_new w rc
  have bel : Below w.heap.size w (w.alloc (.cells (rcC rc) 87)) := (Below.refl _ _).alloc (Nat.le_refl _) _
  obtain ⟨CX, hC⟩ : ∃ C, C = rcC rc := ⟨_, rfl⟩
  obtain ⟨W, hW⟩ : ∃ W, W = w.alloc (.cells (rcC rc) 87) := ⟨_, rfl⟩
  rw [← hW] at hb bel
  obtain ⟨B, hB⟩ : ∃ B, B = w.heap.size := ⟨_, rfl⟩
  rw [← hB] at hb
  have HBX : Hid (RchAt W B rc) := hb
  rw [← hC] at hW ⊢
  have HOX : Hid (w.heap.size = B) := hB.symm
  have HLX : Hid (Below w.heap.size w W) := bel
  have HWX : Hid (w.alloc (.cells CX 87) = W) := hW.symm
  clear hb hW hB hC bel
  have HSZ : Hid (W.heap.size = B + 1) := by show _ = _; rw [← HWX.out, World.size_alloc, HOX.out]
  obtain ⟨Y, hY⟩ : ∃ Y, Y = W.alloc (.cells (rcC rcz) 87) := ⟨_, rfl⟩
  have bY : Below W.heap.size W Y := by rw [hY]; exact (Below.refl _ _).alloc (Nat.le_refl _) _
  have HY : Hid (RchAt Y B rc ∧ RchAt Y (B + 1) rcz ∧ Below w.heap.size w Y) := ⟨HBX.out.below bY, by rw [hY, ← HSZ.out]; exact rch_new W rcz, bthen HLX.out bY⟩
  have HYE : Hid (W.alloc (.cells (rcC rcz) 87) = Y) := hY.symm
  clear hY bY
  obtain ⟨n, hnn⟩ : ∃ n, n = rc.n := ⟨_, rfl⟩
  have HN : Hid (R.length = n ∧ n ≤ 9000 ∧ n = rc.n ∧ n ≤ rc.lc ∧ rc.lc ≤ 9223372036854775807) := ⟨by omega, by omega, hnn, by omega, hc2⟩
  have HER : Hid (ER w rc.la R) := hR
  have c5 : Y.cell? ⟨B, 5, none⟩ = some (.slice rc.la n rc.lc) := by rw [HY.out.1.cell 5, hnn]; rfl
  have c0 : Y.cell? ⟨B, 0, none⟩ = some (.int .i64 rc.c.mx) := HY.out.1.cell 0
  clear hR hn hl hc hc2 hnn
  go_enter Try.func94, Try.ntmps94
  go_upto_region 1 with (first | (rw [HOX.out, HWX.out]; refine wpList_alloc_rch rfl rfl ?_; rw [HSZ.out, HYE.out]; simp only [Act.put, List.setIfInBounds_toArray, List.set_cons_succ, List.set_cons_zero]))
  by_cases hmx : (n : Int) < rc.c.mx
  · have HMX : Hid ((rc.n : Int) < rc.c.mx) := by have h := hmx; rw [HN.out.2.2.1] at h; exact h
    go_wp2_with (first | (refine wpList_load_rch (.tmp 1) rfl B rc rfl HY.out.1 rfl ?_) | (refine wpList_store_rch (.tmp 2) (.tmp 13) rfl rfl (B + 1) rcz rc rfl rfl HY.out.2.1 rfl ?_))
    intro w2 h2 k2
    have H2 : Hid (RchAt w2 (B + 1) rc ∧ Below w.heap.size w w2) := ⟨h2, HY.out.2.2.trans (k2.below (fun q e => by have e' : q = B + 1 := e; have := HOX.out; omega) HY.out.2.2.size)⟩
    clear h2 k2
    go_wp2_with fail
    refine bodyPost_ret (results_rch_tmp rfl _ _ (B + 1) _ rfl H2.out.1) rfl ?_
    exact ⟨H2.out.2, .inl ⟨HMX.out, rfl⟩⟩
  · have HMX : Hid (¬ (rc.n : Int) < rc.c.mx) := by have h := hmx; rw [HN.out.2.2.1] at h; exact h
    go_upto_region 3 with fail
    clear c0 c5
    go_wp2_with fail
    go_loopw [4, 5] (fun kx ix wr => ∃ (o : Option Nat) (i : Nat), kx = .int .i64 (kI o) ∧ ix = .int .i64 (i : Int) ∧ i ≤ n ∧ Hid (RchAt wr B rc ∧ RchAt wr (B + 1) rcz ∧ Below w.heap.size w wr) ∧ Hid (OldI R i o)) (fun _ ix _ => n - (intOf ix).toNat)
    case atStart => exact ⟨none, 0, rfl, rfl, by omega, HY, fun j r h => by omega⟩
    case round =>
      obtain ⟨o, i, rfl, rfl, hi, HQ, HO⟩ := hrel
      have csl : wr.cell? ⟨B, 5, none⟩ = some (.slice rc.la n rc.lc) := by rw [HQ.out.1.cell 5, HN.out.2.2.1]; rfl
      clear HY
      by_cases hlt : i < n
      · have k0 : (0 : Int) ≤ (i : Int) := by omega
        have k1 : (i : Int) < (n : Int) := by omega
        have k2 : ((i : Int)).toNat = i := by omega
        have wi : IntKind.i64.wrap ((i : Int) + 1) = (i : Int) + 1 := by have := HN.out.2.1; rw [IntKind.wrap_i64]; omega
        obtain ⟨e, he⟩ : ∃ e, R[i]? = some e := ⟨_, List.getElem?_eq_getElem (by rw [HN.out.1]; exact hlt)⟩
        obtain ⟨g, off, hla, hx1, hx2⟩ := HER.out.at i e he
        have HRA : Hid (∀ (A : World) (j : Nat) (f : RE), Below w.heap.size w A → R[j]? = some f → A.rangeAt g (off + j * 29) (reC f).toList) := fun A j f hA hf => by
          obtain ⟨g', off', hla', _, hrg⟩ := (HER.out.below hA).at j f hf
          rw [hla] at hla'
          cases hla'
          exact hrg
        have HRB : Hid (∀ A, Below w.heap.size w A → A.rangeAt g (off + i * 29) (reC e).toList) := fun A hA => HRA.out A i e hA he
        have HSL : Hid (∀ A, RchAt A B rc → A.cell? ⟨B, 5, none⟩ = some (.slice (some ⟨g, off, none⟩) n rc.lc)) := fun A hA => by rw [hA.cell 5, ← hla, HN.out.2.2.1]; rfl
        rw [hla] at csl
        have HLT : Hid (i < n) := hlt
        have HEE : Hid (R[i]? = some e) := he
        clear he hi hx1 hx2 hla
        by_cases hst : e.n.st = 3
        · have q1 : (e.n.st == 3) = true := by simpa using hst
          have HST : Hid (e.n.st = 3) := hst
          clear hst
          cases o with
          | none =>
            have HNX : Hid (OldI R (i + 1) (some i)) := HO.out.took HEE.out HST.out (fun k s hk => by cases hk)
            have qk : decide ((-1 : Int) < 0) = true := rfl
            simp only [kI]
            go_upto_region 7 with fail
            refine MixH.start (fun A => RchAt A B rc ∧ A.rangeAt g (off + i * 29) (reC e).toList ∧ True) (by kernel_rfl) ?_
            obtain ⟨wA, hwA⟩ : ∃ wA, wA = wr.drew := ⟨_, rfl⟩
            have bdr : Below wr.heap.size wr wA := by rw [hwA]; exact (Below.refl _ _).drew
            have HE : Hid (RchAt wA B rc ∧ RchAt wA (B + 1) rcz ∧ Below w.heap.size w wA) := ⟨HQ.out.1.below bdr, HQ.out.2.1.below bdr, bthen HQ.out.2.2 bdr⟩
            have hS : RchAt wA B rc ∧ wA.rangeAt g (off + i * 29) (reC e).toList ∧ True := ⟨HE.out.1, HRB.out wA HE.out.2.2, trivial⟩
            rw [← hwA]
            clear hwA bdr HQ
            refine MixH.takes [true] 28 (by kernel_rfl) (by kernel_rfl) (by decide) (by kernel_rfl) hS (fun K hK => ?_)
            simp only [Mix.pick]
            repeat (go_big_quiet_step (fail))
            refine wpQuiet_nil (hK _ ?_)
            clear hK K
            refine MixH.take 27 1 _ (.slice (some ⟨g, off, none⟩) n rc.lc) rfl (by kernel_rfl) (by kernel_rfl) (by kernel_rfl) (by kernel_rfl) (yields_ents (.tmp 21) rfl ⟨B, 5, none⟩ (.slice (some ⟨g, off, none⟩) n rc.lc) rfl rfl (fun A hA => HSL.out A hA.1)) hS (fun a' ha => ?_)
            simp only [Act.put, List.setIfInBounds_toArray, List.set_cons_succ, List.set_cons_zero] at ha
            subst ha
            refine MixH.takes [false, false, true, true, true, true] 23 (by kernel_rfl) (by kernel_rfl) (by decide) (by kernel_rfl) hS (fun K hK => ?_)
            simp only [Mix.pick]
            repeat (go_big_quiet_step (fail))
            refine wpQuiet_nil (hK _ ?_)
            clear hK K
            refine MixH.take 22 6 _ (.int .i64 e.n.st) rfl (by kernel_rfl) (by kernel_rfl) (by kernel_rfl) (by kernel_rfl) (yields_int (.tmp 26) rfl ⟨g, off + i * 29 + 24, none⟩ (.int .i64 e.n.st) rfl rfl (fun A hA => hA.2.1 24 _ rfl)) hS (fun a' ha => ?_)
            simp only [Act.put, List.setIfInBounds_toArray, List.set_cons_succ, List.set_cons_zero] at ha
            subst ha
            refine MixH.takes [false, false, false, false, false, false, false, true, true] 20 (by kernel_rfl) (by kernel_rfl) (by decide) (by kernel_rfl) hS (fun K hK => ?_)
            simp only [Mix.pick]
            repeat (go_big_quiet_step (fail))
            refine wpQuiet_nil (hK _ ?_)
            clear hK K
            refine MixH.takes [false, false, false, false, false, false, false, false, false, true, true, true] 17 (by kernel_rfl) (by kernel_rfl) (by decide) (by kernel_rfl) hS (fun K hK => ?_)
            simp only [Mix.pick]
            repeat (go_big_quiet_step (fail))
            refine wpQuiet_nil (hK _ ?_)
            clear hK K
            refine MixH.take 16 12 _ (undef) rfl (by kernel_rfl) (by kernel_rfl) (by kernel_rfl) (by kernel_rfl) (.inr ⟨rfl, rfl⟩) hS (fun a' ha => ?_)
            simp only [Act.put, List.setIfInBounds_toArray, List.set_cons_succ, List.set_cons_zero] at ha
            subst ha
            refine MixH.take 15 13 _ (undef) rfl (by kernel_rfl) (by kernel_rfl) (by kernel_rfl) (by kernel_rfl) (.inr ⟨rfl, rfl⟩) hS (fun a' ha => ?_)
            simp only [Act.put, List.setIfInBounds_toArray, List.set_cons_succ, List.set_cons_zero] at ha
            subst ha
            refine MixH.take 14 14 _ (undef) rfl (by kernel_rfl) (by kernel_rfl) (by kernel_rfl) (by kernel_rfl) (.inr ⟨rfl, rfl⟩) hS (fun a' ha => ?_)
            simp only [Act.put, List.setIfInBounds_toArray, List.set_cons_succ, List.set_cons_zero] at ha
            subst ha
            refine MixH.take 13 15 _ (undef) rfl (by kernel_rfl) (by kernel_rfl) (by kernel_rfl) (by kernel_rfl) (.inr ⟨rfl, rfl⟩) hS (fun a' ha => ?_)
            simp only [Act.put, List.setIfInBounds_toArray, List.set_cons_succ, List.set_cons_zero] at ha
            subst ha
            refine MixH.take 12 16 _ (undef) rfl (by kernel_rfl) (by kernel_rfl) (by kernel_rfl) (by kernel_rfl) (.inr ⟨rfl, rfl⟩) hS (fun a' ha => ?_)
            simp only [Act.put, List.setIfInBounds_toArray, List.set_cons_succ, List.set_cons_zero] at ha
            subst ha
            refine MixH.take 11 17 _ (undef) rfl (by kernel_rfl) (by kernel_rfl) (by kernel_rfl) (by kernel_rfl) (.inr ⟨rfl, rfl⟩) hS (fun a' ha => ?_)
            simp only [Act.put, List.setIfInBounds_toArray, List.set_cons_succ, List.set_cons_zero] at ha
            subst ha
            refine MixH.take 10 18 _ (undef) rfl (by kernel_rfl) (by kernel_rfl) (by kernel_rfl) (by kernel_rfl) (.inr ⟨rfl, rfl⟩) hS (fun a' ha => ?_)
            simp only [Act.put, List.setIfInBounds_toArray, List.set_cons_succ, List.set_cons_zero] at ha
            subst ha
            refine MixH.take 9 19 _ (undef) rfl (by kernel_rfl) (by kernel_rfl) (by kernel_rfl) (by kernel_rfl) (.inr ⟨rfl, rfl⟩) hS (fun a' ha => ?_)
            simp only [Act.put, List.setIfInBounds_toArray, List.set_cons_succ, List.set_cons_zero] at ha
            subst ha
            refine MixH.take 8 20 _ (undef) rfl (by kernel_rfl) (by kernel_rfl) (by kernel_rfl) (by kernel_rfl) (.inr ⟨rfl, rfl⟩) hS (fun a' ha => ?_)
            simp only [Act.put, List.setIfInBounds_toArray, List.set_cons_succ, List.set_cons_zero] at ha
            subst ha
            refine MixH.take 7 21 _ (undef) rfl (by kernel_rfl) (by kernel_rfl) (by kernel_rfl) (by kernel_rfl) (.inr ⟨rfl, rfl⟩) hS (fun a' ha => ?_)
            simp only [Act.put, List.setIfInBounds_toArray, List.set_cons_succ, List.set_cons_zero] at ha
            subst ha
            refine MixH.take 6 22 _ (undef) rfl (by kernel_rfl) (by kernel_rfl) (by kernel_rfl) (by kernel_rfl) (.inr ⟨rfl, rfl⟩) hS (fun a' ha => ?_)
            simp only [Act.put, List.setIfInBounds_toArray, List.set_cons_succ, List.set_cons_zero] at ha
            subst ha
            refine MixH.take 5 23 _ (undef) rfl (by kernel_rfl) (by kernel_rfl) (by kernel_rfl) (by kernel_rfl) (.inr ⟨rfl, rfl⟩) hS (fun a' ha => ?_)
            simp only [Act.put, List.setIfInBounds_toArray, List.set_cons_succ, List.set_cons_zero] at ha
            subst ha
            refine MixH.take 4 24 _ (undef) rfl (by kernel_rfl) (by kernel_rfl) (by kernel_rfl) (by kernel_rfl) (.inr ⟨rfl, rfl⟩) hS (fun a' ha => ?_)
            simp only [Act.put, List.setIfInBounds_toArray, List.set_cons_succ, List.set_cons_zero] at ha
            subst ha
            refine MixH.take 3 25 _ (undef) rfl (by kernel_rfl) (by kernel_rfl) (by kernel_rfl) (by kernel_rfl) (.inr ⟨rfl, rfl⟩) hS (fun a' ha => ?_)
            simp only [Act.put, List.setIfInBounds_toArray, List.set_cons_succ, List.set_cons_zero] at ha
            subst ha
            refine MixH.take 2 26 _ (undef) rfl (by kernel_rfl) (by kernel_rfl) (by kernel_rfl) (by kernel_rfl) (.inr ⟨rfl, rfl⟩) hS (fun a' ha => ?_)
            simp only [Act.put, List.setIfInBounds_toArray, List.set_cons_succ, List.set_cons_zero] at ha
            subst ha
            refine MixH.takes [false, false, false, false, false, false, false, false, false, false, false, false, false, false, false, false, false, false, false, false, false, false, false, false, false, false, false, true, true] 0 (by kernel_rfl) (by kernel_rfl) (by decide) (by kernel_rfl) hS (fun K hK => ?_)
            simp only [Mix.pick]
            repeat (go_big_quiet_step (fail))
            refine wpQuiet_nil (hK _ ?_)
            clear hK K
            refine MixH.done (by kernel_rfl) ?_
            clear hS
            go_wp2
            go_roundw
            case rel => exact ⟨some i, i + 1, rfl, by first | rfl | go_num, by have := HLT.out; omega, HE, HNX⟩
            case measure => have := HLT.out; simp [intOf]; omega
          | some k =>
            obtain ⟨s, hsk⟩ : ∃ s, R[k]? = some s := by obtain ⟨_, s, hs, _⟩ := HO.out; exact ⟨s, hs⟩
            have HRS : Hid (∀ A, Below w.heap.size w A → A.rangeAt g (off + k * 29) (reC s).toList) := fun A hA => HRA.out A k s hA hsk
            have HSK : Hid (R[k]? = some s) := hsk
            have kk0 : (0 : Int) ≤ (k : Int) := by omega
            have kk1 : (k : Int) < (n : Int) := by have := HO.out.1; omega
            have kk2 : ((k : Int)).toNat = k := by omega
            have kk3 : k < n := by omega
            have qk : decide ((k : Int) < 0) = false := by rw [decide_eq_false_iff_not]; omega
            simp only [kI]
            clear hsk
            by_cases hag : e.n.ag > s.n.ag
            · have qg : decide (e.n.ag > s.n.ag) = true := by simpa using hag
              have HNX : Hid (OldI R (i + 1) (some i)) := HO.out.took HEE.out HST.out (fun k' s' hk' hs' => by cases hk'; rw [HSK.out] at hs'; cases hs'; exact hag)
              clear hag
              go_upto_region 7 with fail
              refine MixH.start (fun A => RchAt A B rc ∧ A.rangeAt g (off + i * 29) (reC e).toList ∧ A.rangeAt g (off + k * 29) (reC s).toList) (by kernel_rfl) ?_
              obtain ⟨wA, hwA⟩ : ∃ wA, wA = wr.drew := ⟨_, rfl⟩
              have bdr : Below wr.heap.size wr wA := by rw [hwA]; exact (Below.refl _ _).drew
              have HE : Hid (RchAt wA B rc ∧ RchAt wA (B + 1) rcz ∧ Below w.heap.size w wA) := ⟨HQ.out.1.below bdr, HQ.out.2.1.below bdr, bthen HQ.out.2.2 bdr⟩
              have hS : RchAt wA B rc ∧ wA.rangeAt g (off + i * 29) (reC e).toList ∧ wA.rangeAt g (off + k * 29) (reC s).toList := ⟨HE.out.1, HRB.out wA HE.out.2.2, HRS.out wA HE.out.2.2⟩
              rw [← hwA]
              clear hwA bdr HQ
              refine MixH.takes [true] 28 (by kernel_rfl) (by kernel_rfl) (by decide) (by kernel_rfl) hS (fun K hK => ?_)
              simp only [Mix.pick]
              repeat (go_big_quiet_step (fail))
              refine wpQuiet_nil (hK _ ?_)
              clear hK K
              refine MixH.take 27 1 _ (.slice (some ⟨g, off, none⟩) n rc.lc) rfl (by kernel_rfl) (by kernel_rfl) (by kernel_rfl) (by kernel_rfl) (yields_ents (.tmp 21) rfl ⟨B, 5, none⟩ (.slice (some ⟨g, off, none⟩) n rc.lc) rfl rfl (fun A hA => HSL.out A hA.1)) hS (fun a' ha => ?_)
              simp only [Act.put, List.setIfInBounds_toArray, List.set_cons_succ, List.set_cons_zero] at ha
              subst ha
              refine MixH.takes [false, false, true, true, true, true] 23 (by kernel_rfl) (by kernel_rfl) (by decide) (by kernel_rfl) hS (fun K hK => ?_)
              simp only [Mix.pick]
              repeat (go_big_quiet_step (fail))
              refine wpQuiet_nil (hK _ ?_)
              clear hK K
              refine MixH.take 22 6 _ (.int .i64 e.n.st) rfl (by kernel_rfl) (by kernel_rfl) (by kernel_rfl) (by kernel_rfl) (yields_int (.tmp 26) rfl ⟨g, off + i * 29 + 24, none⟩ (.int .i64 e.n.st) rfl rfl (fun A hA => hA.2.1 24 _ rfl)) hS (fun a' ha => ?_)
              simp only [Act.put, List.setIfInBounds_toArray, List.set_cons_succ, List.set_cons_zero] at ha
              subst ha
              refine MixH.takes [false, false, false, false, false, false, false, true, true] 20 (by kernel_rfl) (by kernel_rfl) (by decide) (by kernel_rfl) hS (fun K hK => ?_)
              simp only [Mix.pick]
              repeat (go_big_quiet_step (fail))
              refine wpQuiet_nil (hK _ ?_)
              clear hK K
              refine MixH.takes [false, false, false, false, false, false, false, false, false, true, true, true] 17 (by kernel_rfl) (by kernel_rfl) (by decide) (by kernel_rfl) hS (fun K hK => ?_)
              simp only [Mix.pick]
              repeat (go_big_quiet_step (fail))
              refine wpQuiet_nil (hK _ ?_)
              clear hK K
              refine MixH.takes [false, false, false, false, false, false, false, false, false, false, false, false, true] 16 (by kernel_rfl) (by kernel_rfl) (by decide) (by kernel_rfl) hS (fun K hK => ?_)
              simp only [Mix.pick]
              repeat (go_big_quiet_step (fail))
              refine wpQuiet_nil (hK _ ?_)
              clear hK K
              refine MixH.take 15 13 _ (.slice (some ⟨g, off, none⟩) n rc.lc) rfl (by kernel_rfl) (by kernel_rfl) (by kernel_rfl) (by kernel_rfl) (yields_ents (.tmp 33) rfl ⟨B, 5, none⟩ (.slice (some ⟨g, off, none⟩) n rc.lc) rfl rfl (fun A hA => HSL.out A hA.1)) hS (fun a' ha => ?_)
              simp only [Act.put, List.setIfInBounds_toArray, List.set_cons_succ, List.set_cons_zero] at ha
              subst ha
              refine MixH.takes [false, false, false, false, false, false, false, false, false, false, false, false, false, false, true, true, true, true] 11 (by kernel_rfl) (by kernel_rfl) (by decide) (by kernel_rfl) hS (fun K hK => ?_)
              simp only [Mix.pick]
              repeat (go_big_quiet_step (fail))
              refine wpQuiet_nil (hK _ ?_)
              clear hK K
              refine MixH.take 10 18 _ (.int .i64 e.n.ag) rfl (by kernel_rfl) (by kernel_rfl) (by kernel_rfl) (by kernel_rfl) (yields_int (.tmp 38) rfl ⟨g, off + i * 29 + 25, none⟩ (.int .i64 e.n.ag) rfl rfl (fun A hA => hA.2.1 25 _ rfl)) hS (fun a' ha => ?_)
              simp only [Act.put, List.setIfInBounds_toArray, List.set_cons_succ, List.set_cons_zero] at ha
              subst ha
              refine MixH.takes [false, false, false, false, false, false, false, false, false, false, false, false, false, false, false, false, false, false, false, true] 9 (by kernel_rfl) (by kernel_rfl) (by decide) (by kernel_rfl) hS (fun K hK => ?_)
              simp only [Mix.pick]
              repeat (go_big_quiet_step (fail))
              refine wpQuiet_nil (hK _ ?_)
              clear hK K
              refine MixH.take 8 20 _ (.slice (some ⟨g, off, none⟩) n rc.lc) rfl (by kernel_rfl) (by kernel_rfl) (by kernel_rfl) (by kernel_rfl) (yields_ents (.tmp 40) rfl ⟨B, 5, none⟩ (.slice (some ⟨g, off, none⟩) n rc.lc) rfl rfl (fun A hA => HSL.out A hA.1)) hS (fun a' ha => ?_)
              simp only [Act.put, List.setIfInBounds_toArray, List.set_cons_succ, List.set_cons_zero] at ha
              subst ha
              refine MixH.takes [false, false, false, false, false, false, false, false, false, false, false, false, false, false, false, false, false, false, false, false, false, true, true, true, true] 4 (by kernel_rfl) (by kernel_rfl) (by decide) (by kernel_rfl) hS (fun K hK => ?_)
              simp only [Mix.pick]
              repeat (go_big_quiet_step (fail))
              refine wpQuiet_nil (hK _ ?_)
              clear hK K
              refine MixH.take 3 25 _ (.int .i64 s.n.ag) rfl (by kernel_rfl) (by kernel_rfl) (by kernel_rfl) (by kernel_rfl) (yields_int (.tmp 45) rfl ⟨g, off + k * 29 + 25, none⟩ (.int .i64 s.n.ag) rfl rfl (fun A hA => hA.2.2 25 _ rfl)) hS (fun a' ha => ?_)
              simp only [Act.put, List.setIfInBounds_toArray, List.set_cons_succ, List.set_cons_zero] at ha
              subst ha
              refine MixH.takes [false, false, false, false, false, false, false, false, false, false, false, false, false, false, false, false, false, false, false, false, false, false, false, false, false, false, true, true, true] 0 (by kernel_rfl) (by kernel_rfl) (by decide) (by kernel_rfl) hS (fun K hK => ?_)
              simp only [Mix.pick]
              repeat (go_big_quiet_step (fail))
              refine wpQuiet_nil (hK _ ?_)
              clear hK K
              refine MixH.done (by kernel_rfl) ?_
              clear hS
              go_wp2
              go_roundw
              case rel => exact ⟨some i, i + 1, rfl, by first | rfl | go_num, by have := HLT.out; omega, HE, HNX⟩
              case measure => have := HLT.out; simp [intOf]; omega
            · have qg : decide (e.n.ag > s.n.ag) = false := by simpa using hag
              have HNX : Hid (OldI R (i + 1) (some k)) := HO.out.skip HEE.out (.inr ⟨k, s, rfl, HSK.out, by omega⟩)
              clear hag
              go_upto_region 7 with fail
              refine MixH.start (fun A => RchAt A B rc ∧ A.rangeAt g (off + i * 29) (reC e).toList ∧ A.rangeAt g (off + k * 29) (reC s).toList) (by kernel_rfl) ?_
              obtain ⟨wA, hwA⟩ : ∃ wA, wA = wr.drew := ⟨_, rfl⟩
              have bdr : Below wr.heap.size wr wA := by rw [hwA]; exact (Below.refl _ _).drew
              have HE : Hid (RchAt wA B rc ∧ RchAt wA (B + 1) rcz ∧ Below w.heap.size w wA) := ⟨HQ.out.1.below bdr, HQ.out.2.1.below bdr, bthen HQ.out.2.2 bdr⟩
              have hS : RchAt wA B rc ∧ wA.rangeAt g (off + i * 29) (reC e).toList ∧ wA.rangeAt g (off + k * 29) (reC s).toList := ⟨HE.out.1, HRB.out wA HE.out.2.2, HRS.out wA HE.out.2.2⟩
              rw [← hwA]
              clear hwA bdr HQ
              refine MixH.takes [true] 28 (by kernel_rfl) (by kernel_rfl) (by decide) (by kernel_rfl) hS (fun K hK => ?_)
              simp only [Mix.pick]
              repeat (go_big_quiet_step (fail))
              refine wpQuiet_nil (hK _ ?_)
              clear hK K
              refine MixH.take 27 1 _ (.slice (some ⟨g, off, none⟩) n rc.lc) rfl (by kernel_rfl) (by kernel_rfl) (by kernel_rfl) (by kernel_rfl) (yields_ents (.tmp 21) rfl ⟨B, 5, none⟩ (.slice (some ⟨g, off, none⟩) n rc.lc) rfl rfl (fun A hA => HSL.out A hA.1)) hS (fun a' ha => ?_)
              simp only [Act.put, List.setIfInBounds_toArray, List.set_cons_succ, List.set_cons_zero] at ha
              subst ha
              refine MixH.takes [false, false, true, true, true, true] 23 (by kernel_rfl) (by kernel_rfl) (by decide) (by kernel_rfl) hS (fun K hK => ?_)
              simp only [Mix.pick]
              repeat (go_big_quiet_step (fail))
              refine wpQuiet_nil (hK _ ?_)
              clear hK K
              refine MixH.take 22 6 _ (.int .i64 e.n.st) rfl (by kernel_rfl) (by kernel_rfl) (by kernel_rfl) (by kernel_rfl) (yields_int (.tmp 26) rfl ⟨g, off + i * 29 + 24, none⟩ (.int .i64 e.n.st) rfl rfl (fun A hA => hA.2.1 24 _ rfl)) hS (fun a' ha => ?_)
              simp only [Act.put, List.setIfInBounds_toArray, List.set_cons_succ, List.set_cons_zero] at ha
              subst ha
              refine MixH.takes [false, false, false, false, false, false, false, true, true] 20 (by kernel_rfl) (by kernel_rfl) (by decide) (by kernel_rfl) hS (fun K hK => ?_)
              simp only [Mix.pick]
              repeat (go_big_quiet_step (fail))
              refine wpQuiet_nil (hK _ ?_)
              clear hK K
              refine MixH.takes [false, false, false, false, false, false, false, false, false, true, true, true] 17 (by kernel_rfl) (by kernel_rfl) (by decide) (by kernel_rfl) hS (fun K hK => ?_)
              simp only [Mix.pick]
              repeat (go_big_quiet_step (fail))
              refine wpQuiet_nil (hK _ ?_)
              clear hK K
              refine MixH.takes [false, false, false, false, false, false, false, false, false, false, false, false, true] 16 (by kernel_rfl) (by kernel_rfl) (by decide) (by kernel_rfl) hS (fun K hK => ?_)
              simp only [Mix.pick]
              repeat (go_big_quiet_step (fail))
              refine wpQuiet_nil (hK _ ?_)
              clear hK K
              refine MixH.take 15 13 _ (.slice (some ⟨g, off, none⟩) n rc.lc) rfl (by kernel_rfl) (by kernel_rfl) (by kernel_rfl) (by kernel_rfl) (yields_ents (.tmp 33) rfl ⟨B, 5, none⟩ (.slice (some ⟨g, off, none⟩) n rc.lc) rfl rfl (fun A hA => HSL.out A hA.1)) hS (fun a' ha => ?_)
              simp only [Act.put, List.setIfInBounds_toArray, List.set_cons_succ, List.set_cons_zero] at ha
              subst ha
              refine MixH.takes [false, false, false, false, false, false, false, false, false, false, false, false, false, false, true, true, true, true] 11 (by kernel_rfl) (by kernel_rfl) (by decide) (by kernel_rfl) hS (fun K hK => ?_)
              simp only [Mix.pick]
              repeat (go_big_quiet_step (fail))
              refine wpQuiet_nil (hK _ ?_)
              clear hK K
              refine MixH.take 10 18 _ (.int .i64 e.n.ag) rfl (by kernel_rfl) (by kernel_rfl) (by kernel_rfl) (by kernel_rfl) (yields_int (.tmp 38) rfl ⟨g, off + i * 29 + 25, none⟩ (.int .i64 e.n.ag) rfl rfl (fun A hA => hA.2.1 25 _ rfl)) hS (fun a' ha => ?_)
              simp only [Act.put, List.setIfInBounds_toArray, List.set_cons_succ, List.set_cons_zero] at ha
              subst ha
              refine MixH.takes [false, false, false, false, false, false, false, false, false, false, false, false, false, false, false, false, false, false, false, true] 9 (by kernel_rfl) (by kernel_rfl) (by decide) (by kernel_rfl) hS (fun K hK => ?_)
              simp only [Mix.pick]
              repeat (go_big_quiet_step (fail))
              refine wpQuiet_nil (hK _ ?_)
              clear hK K
              refine MixH.take 8 20 _ (.slice (some ⟨g, off, none⟩) n rc.lc) rfl (by kernel_rfl) (by kernel_rfl) (by kernel_rfl) (by kernel_rfl) (yields_ents (.tmp 40) rfl ⟨B, 5, none⟩ (.slice (some ⟨g, off, none⟩) n rc.lc) rfl rfl (fun A hA => HSL.out A hA.1)) hS (fun a' ha => ?_)
              simp only [Act.put, List.setIfInBounds_toArray, List.set_cons_succ, List.set_cons_zero] at ha
              subst ha
              refine MixH.takes [false, false, false, false, false, false, false, false, false, false, false, false, false, false, false, false, false, false, false, false, false, true, true, true, true] 4 (by kernel_rfl) (by kernel_rfl) (by decide) (by kernel_rfl) hS (fun K hK => ?_)
              simp only [Mix.pick]
              repeat (go_big_quiet_step (fail))
              refine wpQuiet_nil (hK _ ?_)
              clear hK K
              refine MixH.take 3 25 _ (.int .i64 s.n.ag) rfl (by kernel_rfl) (by kernel_rfl) (by kernel_rfl) (by kernel_rfl) (yields_int (.tmp 45) rfl ⟨g, off + k * 29 + 25, none⟩ (.int .i64 s.n.ag) rfl rfl (fun A hA => hA.2.2 25 _ rfl)) hS (fun a' ha => ?_)
              simp only [Act.put, List.setIfInBounds_toArray, List.set_cons_succ, List.set_cons_zero] at ha
              subst ha
              refine MixH.takes [false, false, false, false, false, false, false, false, false, false, false, false, false, false, false, false, false, false, false, false, false, false, false, false, false, false, true, true, true] 0 (by kernel_rfl) (by kernel_rfl) (by decide) (by kernel_rfl) hS (fun K hK => ?_)
              simp only [Mix.pick]
              repeat (go_big_quiet_step (fail))
              refine wpQuiet_nil (hK _ ?_)
              clear hK K
              refine MixH.done (by kernel_rfl) ?_
              clear hS
              go_wp2
              go_roundw
              case rel => exact ⟨some k, i + 1, rfl, by first | rfl | go_num, by have := HLT.out; omega, HE, HNX⟩
              case measure => have := HLT.out; simp [intOf]; omega
        · have q1 : (e.n.st == 3) = false := by simpa using hst
          have HNX : Hid (OldI R (i + 1) o) := HO.out.skip HEE.out (.inl hst)
          clear hst
          go_upto_region 7 with fail
          refine MixH.start (fun A => RchAt A B rc ∧ A.rangeAt g (off + i * 29) (reC e).toList ∧ True) (by kernel_rfl) ?_
          obtain ⟨wA, hwA⟩ : ∃ wA, wA = wr.drew := ⟨_, rfl⟩
          have bdr : Below wr.heap.size wr wA := by rw [hwA]; exact (Below.refl _ _).drew
          have HE : Hid (RchAt wA B rc ∧ RchAt wA (B + 1) rcz ∧ Below w.heap.size w wA) := ⟨HQ.out.1.below bdr, HQ.out.2.1.below bdr, bthen HQ.out.2.2 bdr⟩
          have hS : RchAt wA B rc ∧ wA.rangeAt g (off + i * 29) (reC e).toList ∧ True := ⟨HE.out.1, HRB.out wA HE.out.2.2, trivial⟩
          rw [← hwA]
          clear hwA bdr HQ
          refine MixH.takes [true] 28 (by kernel_rfl) (by kernel_rfl) (by decide) (by kernel_rfl) hS (fun K hK => ?_)
          simp only [Mix.pick]
          repeat (go_big_quiet_step (fail))
          refine wpQuiet_nil (hK _ ?_)
          clear hK K
          refine MixH.take 27 1 _ (.slice (some ⟨g, off, none⟩) n rc.lc) rfl (by kernel_rfl) (by kernel_rfl) (by kernel_rfl) (by kernel_rfl) (yields_ents (.tmp 21) rfl ⟨B, 5, none⟩ (.slice (some ⟨g, off, none⟩) n rc.lc) rfl rfl (fun A hA => HSL.out A hA.1)) hS (fun a' ha => ?_)
          simp only [Act.put, List.setIfInBounds_toArray, List.set_cons_succ, List.set_cons_zero] at ha
          subst ha
          refine MixH.takes [false, false, true, true, true, true] 23 (by kernel_rfl) (by kernel_rfl) (by decide) (by kernel_rfl) hS (fun K hK => ?_)
          simp only [Mix.pick]
          repeat (go_big_quiet_step (fail))
          refine wpQuiet_nil (hK _ ?_)
          clear hK K
          refine MixH.take 22 6 _ (.int .i64 e.n.st) rfl (by kernel_rfl) (by kernel_rfl) (by kernel_rfl) (by kernel_rfl) (yields_int (.tmp 26) rfl ⟨g, off + i * 29 + 24, none⟩ (.int .i64 e.n.st) rfl rfl (fun A hA => hA.2.1 24 _ rfl)) hS (fun a' ha => ?_)
          simp only [Act.put, List.setIfInBounds_toArray, List.set_cons_succ, List.set_cons_zero] at ha
          subst ha
          refine MixH.takes [false, false, false, false, false, false, false, true, true] 20 (by kernel_rfl) (by kernel_rfl) (by decide) (by kernel_rfl) hS (fun K hK => ?_)
          simp only [Mix.pick]
          repeat (go_big_quiet_step (fail))
          refine wpQuiet_nil (hK _ ?_)
          clear hK K
          refine MixH.take 19 9 _ (undef) rfl (by kernel_rfl) (by kernel_rfl) (by kernel_rfl) (by kernel_rfl) (.inr ⟨rfl, rfl⟩) hS (fun a' ha => ?_)
          simp only [Act.put, List.setIfInBounds_toArray, List.set_cons_succ, List.set_cons_zero] at ha
          subst ha
          refine MixH.take 18 10 _ (undef) rfl (by kernel_rfl) (by kernel_rfl) (by kernel_rfl) (by kernel_rfl) (.inr ⟨rfl, rfl⟩) hS (fun a' ha => ?_)
          simp only [Act.put, List.setIfInBounds_toArray, List.set_cons_succ, List.set_cons_zero] at ha
          subst ha
          refine MixH.take 17 11 _ (undef) rfl (by kernel_rfl) (by kernel_rfl) (by kernel_rfl) (by kernel_rfl) (.inr ⟨rfl, rfl⟩) hS (fun a' ha => ?_)
          simp only [Act.put, List.setIfInBounds_toArray, List.set_cons_succ, List.set_cons_zero] at ha
          subst ha
          refine MixH.take 16 12 _ (undef) rfl (by kernel_rfl) (by kernel_rfl) (by kernel_rfl) (by kernel_rfl) (.inr ⟨rfl, rfl⟩) hS (fun a' ha => ?_)
          simp only [Act.put, List.setIfInBounds_toArray, List.set_cons_succ, List.set_cons_zero] at ha
          subst ha
          refine MixH.take 15 13 _ (undef) rfl (by kernel_rfl) (by kernel_rfl) (by kernel_rfl) (by kernel_rfl) (.inr ⟨rfl, rfl⟩) hS (fun a' ha => ?_)
          simp only [Act.put, List.setIfInBounds_toArray, List.set_cons_succ, List.set_cons_zero] at ha
          subst ha
          refine MixH.take 14 14 _ (undef) rfl (by kernel_rfl) (by kernel_rfl) (by kernel_rfl) (by kernel_rfl) (.inr ⟨rfl, rfl⟩) hS (fun a' ha => ?_)
          simp only [Act.put, List.setIfInBounds_toArray, List.set_cons_succ, List.set_cons_zero] at ha
          subst ha
          refine MixH.take 13 15 _ (undef) rfl (by kernel_rfl) (by kernel_rfl) (by kernel_rfl) (by kernel_rfl) (.inr ⟨rfl, rfl⟩) hS (fun a' ha => ?_)
          simp only [Act.put, List.setIfInBounds_toArray, List.set_cons_succ, List.set_cons_zero] at ha
          subst ha
          refine MixH.take 12 16 _ (undef) rfl (by kernel_rfl) (by kernel_rfl) (by kernel_rfl) (by kernel_rfl) (.inr ⟨rfl, rfl⟩) hS (fun a' ha => ?_)
          simp only [Act.put, List.setIfInBounds_toArray, List.set_cons_succ, List.set_cons_zero] at ha
          subst ha
          refine MixH.take 11 17 _ (undef) rfl (by kernel_rfl) (by kernel_rfl) (by kernel_rfl) (by kernel_rfl) (.inr ⟨rfl, rfl⟩) hS (fun a' ha => ?_)
          simp only [Act.put, List.setIfInBounds_toArray, List.set_cons_succ, List.set_cons_zero] at ha
          subst ha
          refine MixH.take 10 18 _ (undef) rfl (by kernel_rfl) (by kernel_rfl) (by kernel_rfl) (by kernel_rfl) (.inr ⟨rfl, rfl⟩) hS (fun a' ha => ?_)
          simp only [Act.put, List.setIfInBounds_toArray, List.set_cons_succ, List.set_cons_zero] at ha
          subst ha
          refine MixH.take 9 19 _ (undef) rfl (by kernel_rfl) (by kernel_rfl) (by kernel_rfl) (by kernel_rfl) (.inr ⟨rfl, rfl⟩) hS (fun a' ha => ?_)
          simp only [Act.put, List.setIfInBounds_toArray, List.set_cons_succ, List.set_cons_zero] at ha
          subst ha
          refine MixH.take 8 20 _ (undef) rfl (by kernel_rfl) (by kernel_rfl) (by kernel_rfl) (by kernel_rfl) (.inr ⟨rfl, rfl⟩) hS (fun a' ha => ?_)
          simp only [Act.put, List.setIfInBounds_toArray, List.set_cons_succ, List.set_cons_zero] at ha
          subst ha
          refine MixH.take 7 21 _ (undef) rfl (by kernel_rfl) (by kernel_rfl) (by kernel_rfl) (by kernel_rfl) (.inr ⟨rfl, rfl⟩) hS (fun a' ha => ?_)
          simp only [Act.put, List.setIfInBounds_toArray, List.set_cons_succ, List.set_cons_zero] at ha
          subst ha
          refine MixH.take 6 22 _ (undef) rfl (by kernel_rfl) (by kernel_rfl) (by kernel_rfl) (by kernel_rfl) (.inr ⟨rfl, rfl⟩) hS (fun a' ha => ?_)
          simp only [Act.put, List.setIfInBounds_toArray, List.set_cons_succ, List.set_cons_zero] at ha
          subst ha
          refine MixH.take 5 23 _ (undef) rfl (by kernel_rfl) (by kernel_rfl) (by kernel_rfl) (by kernel_rfl) (.inr ⟨rfl, rfl⟩) hS (fun a' ha => ?_)
          simp only [Act.put, List.setIfInBounds_toArray, List.set_cons_succ, List.set_cons_zero] at ha
          subst ha
          refine MixH.take 4 24 _ (undef) rfl (by kernel_rfl) (by kernel_rfl) (by kernel_rfl) (by kernel_rfl) (.inr ⟨rfl, rfl⟩) hS (fun a' ha => ?_)
          simp only [Act.put, List.setIfInBounds_toArray, List.set_cons_succ, List.set_cons_zero] at ha
          subst ha
          refine MixH.take 3 25 _ (undef) rfl (by kernel_rfl) (by kernel_rfl) (by kernel_rfl) (by kernel_rfl) (.inr ⟨rfl, rfl⟩) hS (fun a' ha => ?_)
          simp only [Act.put, List.setIfInBounds_toArray, List.set_cons_succ, List.set_cons_zero] at ha
          subst ha
          refine MixH.take 2 26 _ (undef) rfl (by kernel_rfl) (by kernel_rfl) (by kernel_rfl) (by kernel_rfl) (.inr ⟨rfl, rfl⟩) hS (fun a' ha => ?_)
          simp only [Act.put, List.setIfInBounds_toArray, List.set_cons_succ, List.set_cons_zero] at ha
          subst ha
          refine MixH.take 1 27 _ (undef) rfl (by kernel_rfl) (by kernel_rfl) (by kernel_rfl) (by kernel_rfl) (.inr ⟨rfl, rfl⟩) hS (fun a' ha => ?_)
          simp only [Act.put, List.setIfInBounds_toArray, List.set_cons_succ, List.set_cons_zero] at ha
          subst ha
          refine MixH.takes [false, false, false, false, false, false, false, false, false, false, false, false, false, false, false, false, false, false, false, false, false, false, false, false, false, false, false, false, true] 0 (by kernel_rfl) (by kernel_rfl) (by decide) (by kernel_rfl) hS (fun K hK => ?_)
          simp only [Mix.pick]
          repeat (go_big_quiet_step (fail))
          refine wpQuiet_nil (hK _ ?_)
          clear hK K
          refine MixH.done (by kernel_rfl) ?_
          clear hS
          go_wp2
          go_roundw
          case rel => exact ⟨o, i + 1, rfl, by first | rfl | go_num, by have := HLT.out; omega, HE, HNX⟩
          case measure => have := HLT.out; simp [intOf]; omega
      · have hni : ¬ ((i : Int) < (n : Int)) := by omega
        have HOn : Hid (OldI R rc.n o) := by have h : i = rc.n := by have := HN.out.2.2.1; omega
                                             rw [← h]; exact HO.out
        cases o with
        | none =>
          have qk : decide ((-1 : Int) < 0) = true := rfl
          simp only [kI]
          go_wp2_with (first | (refine wpList_load_rch (.tmp 1) rfl B rc rfl HQ.out.1 rfl ?_) | (refine wpList_store_rch (.tmp 2) (.tmp 53) rfl rfl (B + 1) rcz rc rfl rfl HQ.out.2.1 rfl ?_))
          intro w2 h2 k2
          have H2 : Hid (RchAt w2 (B + 1) rc ∧ Below w.heap.size w w2) := ⟨h2, HQ.out.2.2.trans (k2.below (fun q e => by have e' : q = B + 1 := e; have := HOX.out; omega) HQ.out.2.2.size)⟩
          clear h2 k2
          go_wp2_with fail
          refine bodyPost_ret (results_rch_tmp rfl _ _ (B + 1) _ rfl H2.out.1) rfl ?_
          exact ⟨H2.out.2, .inr (.inl ⟨by have := HMX.out; omega, HOn.out, rfl⟩)⟩
        | some k =>
          have hkn : k < n := by have := HOn.out.1; have := HN.out.2.2.1; omega
          have qk : decide ((k : Int) < 0) = false := by rw [decide_eq_false_iff_not]; omega
          have qk2 : ¬ ((k : Int) < 0) := by omega
          have QW : Hid _ := rwithout_any rc.la n rc.lc R k wr (HER.out.below HQ.out.2.2) HN.out.1 (by have := HN.out.2.1; omega) HN.out.2.2.2.1 HN.out.2.2.2.2 hkn
          simp only [kI]
          clear hkn
          go_wp2_with fail
          refine Calls.mono QW.out ?_
          rintro r0 w2 ⟨v, rfl, hEL, b2⟩
          obtain ⟨va, vc, rfl, hy1, hy2, hy3⟩ := hEL.cap
          clear hy1 hy2 hy3
          obtain ⟨L, hL⟩ : ∃ L, L = R.take k ++ R.drop (k + 1) := ⟨_, rfl⟩
          rw [← hL] at hEL ⊢
          obtain ⟨nl, hnl⟩ : ∃ nl, nl = L.length := ⟨_, rfl⟩
          rw [← hnl] at hEL ⊢
          have HL : Hid (L = R.take k ++ R.drop (k + 1) ∧ nl = L.length) := ⟨hL, hnl⟩
          have H2 : Hid (RchAt w2 B rc ∧ RchAt w2 (B + 1) rcz ∧ Below w.heap.size w w2 ∧ EL w2 w.heap.size (.slice va nl vc) L) := ⟨HQ.out.1.below b2, HQ.out.2.1.below b2, bthen HQ.out.2.2 b2, EL.mono hEL HQ.out.2.2.size⟩
          have c5 : w2.cell? ⟨B, 5, none⟩ = some (.slice rc.la n rc.lc) := by rw [H2.out.1.cell 5, HN.out.2.2.1]; rfl
          have f5 := H2.out.1.fz 5
          clear hEL b2 hL hnl QW HQ csl
          have kX : Ch (fun q => q = B) w2 (w2.setCell ⟨B, 5, none⟩ (.slice va nl vc)) := (Ch.refl (fun q => q = B) w2).set _ _ rfl
          have H3 : Hid (RchAt (w2.setCell ⟨B, 5, none⟩ (.slice va nl vc)) B ⟨rc.c, va, nl, vc⟩ ∧ RchAt (w2.setCell ⟨B, 5, none⟩ (.slice va nl vc)) (B + 1) rcz ∧ Below w.heap.size w (w2.setCell ⟨B, 5, none⟩ (.slice va nl vc)) ∧ EL (w2.setCell ⟨B, 5, none⟩ (.slice va nl vc)) w.heap.size (.slice va nl vc) L) :=
            ⟨H2.out.1.setl va nl vc, H2.out.2.1.ch kX (by omega), H2.out.2.2.1.trans (kX.below (fun q e => by have e' : q = B := e; have := HOX.out; omega) H2.out.2.2.1.size), EL.ch H2.out.2.2.2 kX (fun g hg e => el_rch H2.out.2.2.2 H2.out.1 g hg e)⟩
          clear kX
          go_wp2_with (first | (refine wpList_load_rch (.tmp 1) rfl B ⟨rc.c, va, nl, vc⟩ rfl H3.out.1 rfl ?_) | (refine wpList_store_rch (.tmp 2) (.tmp 59) rfl rfl (B + 1) rcz ⟨rc.c, va, nl, vc⟩ rfl rfl H3.out.2.1 rfl ?_))
          intro w3 h3 k3
          have H4 : Hid (RchAt w3 (B + 1) ⟨rc.c, va, nl, vc⟩ ∧ Below w.heap.size w w3 ∧ EL w3 w.heap.size (.slice va nl vc) L) := ⟨h3, H3.out.2.2.1.trans (k3.below (fun q e => by have e' : q = B + 1 := e; have := HOX.out; omega) H3.out.2.2.1.size), EL.ch H3.out.2.2.2 k3 (fun g hg e => el_rch H3.out.2.2.2 H3.out.2.1 g hg e)⟩
          clear h3 k3 H3 H2 c5 f5
          go_wp2_with fail
          refine bodyPost_ret (results_rch_tmp rfl _ _ (B + 1) _ rfl H4.out.1) rfl ?_
          obtain ⟨rfl, rfl⟩ := HL.out
          exact ⟨H4.out.2.1, .inr (.inr ⟨by have := HMX.out; omega, k, va, vc, HOn.out, rfl, H4.out.2.2⟩)⟩
end Go.Proofs.Ytialefdojeddjaa
