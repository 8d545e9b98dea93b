/-
  Layer 17: freePort; tuples held against one another; awaiting.
-/
import Derived.Test.YtclpeepnngegaaaDoorFlFn3
namespace Go.Proofs.YtclpeepnngegaaaDoor
open Go.RowKit Go.Maps

/-- what holds of every table's configuration -/
structure CfOk (c : CF) : Prop where
  mx : 1 ≤ c.mx ∧ c.mx ≤ 4096
  oV : c.oV = 4
  o : ∀ i, i < 16 → c.o i < 256
  lo : 1 ≤ c.lo
  hi : c.lo ≤ c.hi
  tp : c.hi ≤ 65535
  sy : 1 ≤ c.sy ∧ c.sy ≤ 1048576
  tc : 1 ≤ c.tc ∧ c.tc ≤ 1048576
  fi : 1 ≤ c.fi ∧ c.fi ≤ 1048576
  ud : 1 ≤ c.ud ∧ c.ud ≤ 1048576
  ic : 1 ≤ c.ic ∧ c.ic ≤ 1048576
/-- the least free port of n from lo on -/
def frF (E : List FV) (pr : Int) : Int → Nat → Option Int
  | _, 0 => none
  | lo, n + 1 => if frB E pr lo then some lo else frF E pr (lo + 1) n
def fpO (c : CF) (E : List FV) (x : TU) : Option Int := if x.sV == 6 || (inR x.sp c.lo c.hi && frB E x.pr x.sp) then some x.sp else frF E x.pr c.lo (c.hi - c.lo + 1).toNat
theorem frF_some {E : List FV} {pr : Int} : ∀ {n : Nat} {lo p : Int}, frF E pr lo n = some p → frB E pr p = true ∧ lo ≤ p ∧ p < lo + n
  | 0, lo, p, h => by cases h
  | n + 1, lo, p, h => by
    unfold frF at h
    cases hb : frB E pr lo with
    | true =>
      rw [hb, if_pos rfl] at h
      obtain rfl := Option.some.inj h
      exact ⟨hb, by omega, by omega⟩
    | false =>
      rw [hb, if_neg (by decide)] at h
      obtain ⟨h1, h2, h3⟩ := frF_some h
      exact ⟨h1, by omega, by omega⟩
theorem fpO_some {c : CF} {E : List FV} {x : TU} {p : Int} (h : fpO c E x = some p) (hc : CfOk c) (h6 : (x.sV == 6) = false) : frB E x.pr p = true ∧ c.lo ≤ p ∧ p ≤ c.hi := by
  unfold fpO at h
  rw [h6, Bool.false_or] at h
  cases hb : (inR x.sp c.lo c.hi && frB E x.pr x.sp) with
  | true =>
    rw [hb, if_pos rfl] at h
    obtain rfl := Option.some.inj h
    simp only [Bool.and_eq_true, inR, decide_eq_true_eq] at hb
    exact ⟨hb.2, hb.1.1, hb.1.2⟩
  | false =>
    rw [hb, if_neg (by decide)] at h
    obtain ⟨h1, h2, h3⟩ := frF_some h
    have := hc.hi
    exact ⟨h1, h2, by omega⟩
theorem wf_i64 {n : Int} (h1 : -9223372036854775808 ≤ n) (h2 : n ≤ 9223372036854775807) : (Lit.int .i64 n).wf = true := by
  have e1 : IntKind.i64.min = -9223372036854775808 := rfl
  have e2 : IntKind.i64.max = 9223372036854775807 := rfl
  simp [Lit.wf, e1, e2]
  omega
theorem TblAt.c18 {w : World} {t M N : Nat} {c : CF} (k : TblAt w t c M N) : w.cell? ⟨t, 18, none⟩ = some (.int .i64 c.lo) := TblAt.cell k 18
theorem TblAt.c19 {w : World} {t M N : Nat} {c : CF} (k : TblAt w t c M N) : w.cell? ⟨t, 19, none⟩ = some (.int .i64 c.hi) := TblAt.cell k 19
theorem TblAt.c0 {w : World} {t M N : Nat} {c : CF} (k : TblAt w t c M N) : w.cell? ⟨t, 0, none⟩ = some (.int .i64 c.mx) := TblAt.cell k 0
def okV : Option Int → Value
  | none => .tuple #[.int .i64 0, .bool false]
  | some p => .tuple #[.int .i64 p, .bool true]
set_option maxHeartbeats 1600000 in
set_option maxRecDepth 100000 in
theorem freePort_any (t M N : Nat) (c : CF) (E : List FV) (w : World) (h : TA w t M N c E) (hc : CfOk c) (x : TU) (hx : x.Wf) : Calls Tryd.prog 40 #[.pointer (some ⟨t, 0, none⟩), .agg (tuC x)] w fun r w' => r = .returned (okV (fpO c E x)) ∧ Below w.heap.size w w' := by
  have HOK : Hid (CfOk c) := hc
  have HXW : Hid x.Wf := hx
  have HH : Hid (TA w t M N c E) := h
  clear hc hx h
  have hb := tup_new w x
  have bel : Below w.heap.size w (w.alloc (.cells (tuC x) 34)) := (Below.refl _ _).alloc (Nat.le_refl _) _
  obtain ⟨CX, hC⟩ : ∃ C, C = tuC x := ⟨_, rfl⟩
  obtain ⟨W, hW⟩ : ∃ W, W = w.alloc (.cells (tuC x) 34) := ⟨_, rfl⟩
  rw [← hW] at hb bel
  have HSZX : Hid (W.heap.size = w.heap.size + 1) := by show _ = _; rw [hW, World.size_alloc]
  obtain ⟨B, hB⟩ : ∃ B, B = w.heap.size := ⟨_, rfl⟩
  rw [← hB] at hb
  have HBX : Hid (TupAt W B x) := hb
  rw [← hC] at hW ⊢
  have HOX : Hid (w.heap.size = B) := hB.symm
  have HLX : Hid (Below w.heap.size w W) := bel
  have HWX : Hid (w.alloc (.cells CX 34) = W) := hW.symm
  clear hb hW hB hC bel
  have HT : Hid (TA W t M N c E) := HH.out.below HLX.out
  have c1 := HBX.out.c1
  obtain ⟨b6, hb6⟩ : ∃ b, (x.sV == 6) = b := ⟨_, rfl⟩
  have HB6 : Hid ((x.sV == 6) = b6) := hb6
  go_enter Tryd.func40, Tryd.ntmps40
  cases b6 with
  | true =>
    have HR : Hid (fpO c E x = some x.sp) := by show _ = _; unfold fpO; rw [HB6.out]; rfl
    go_upto_region 1 with fail
    rw [HOX.out, HWX.out]
    refine MixH.start (fun A => TA A t M N c E ∧ TupAt A B x) (by kernel_rfl) ?_
    obtain ⟨wA, hwA⟩ : ∃ wA, wA = W.drew := ⟨_, rfl⟩
    have bdr : Below W.heap.size W wA := by rw [hwA]; exact (Below.refl _ _).drew
    have hS : TA wA t M N c E ∧ TupAt wA B x := ⟨HT.out.below bdr, HBX.out.below bdr⟩
    have HA : Hid (TA wA t M N c E ∧ TupAt wA B x ∧ Below w.heap.size w wA) := ⟨hS.1, hS.2, bthen HLX.out bdr⟩
    rw [← hwA]
    clear hwA bdr
    refine MixH.takes [true, true] 25 (by kernel_rfl) (by kernel_rfl) (by decide) (by kernel_rfl) hS (fun K hK => ?_)
    simp only [Mix.pick]
    repeat (go_big_quiet_step (fail))
    refine wpQuiet_nil (hK _ ?_)
    clear hK K
    refine MixH.take 24 2 _ (.int .i64 x.sV) rfl (by kernel_rfl) (by kernel_rfl) (by kernel_rfl) (by kernel_rfl) (yields_int (.tmp 8) rfl ⟨B, 1, none⟩ (.int .i64 x.sV) rfl rfl (fun A hA => hA.2.c1)) hS (fun a' ha => ?_)
    simp only [Act.put, List.setIfInBounds_toArray, List.set_cons_succ, List.set_cons_zero] at ha
    subst ha
    refine MixH.takes [false, false, false, true, true, true, false, true, true, true, true, false, true, true, true, true] 13 (by kernel_rfl) (by kernel_rfl) (by decide) (by kernel_rfl) hS (fun K hK => ?_)
    simp only [Mix.pick]
    repeat (go_big_quiet_step (fail))
    refine wpQuiet_nil (hK _ ?_)
    clear hK K
    refine MixH.take 12 6 _ (undef) rfl (by kernel_rfl) (by kernel_rfl) (by kernel_rfl) (by kernel_rfl) (.inr ⟨rfl, rfl⟩) hS (fun a' ha => ?_)
    simp only [Act.put, List.setIfInBounds_toArray, List.set_cons_succ, List.set_cons_zero] at ha
    subst ha
    refine MixH.take 11 11 _ (undef) rfl (by kernel_rfl) (by kernel_rfl) (by kernel_rfl) (by kernel_rfl) (.inr ⟨rfl, rfl⟩) hS (fun a' ha => ?_)
    simp only [Act.put, List.setIfInBounds_toArray, List.set_cons_succ, List.set_cons_zero] at ha
    subst ha
    refine MixH.take 10 16 _ (undef) rfl (by kernel_rfl) (by kernel_rfl) (by kernel_rfl) (by kernel_rfl) (.inr ⟨rfl, rfl⟩) hS (fun a' ha => ?_)
    simp only [Act.put, List.setIfInBounds_toArray, List.set_cons_succ, List.set_cons_zero] at ha
    subst ha
    refine MixH.take 9 17 _ (undef) rfl (by kernel_rfl) (by kernel_rfl) (by kernel_rfl) (by kernel_rfl) (.inr ⟨rfl, rfl⟩) hS (fun a' ha => ?_)
    simp only [Act.put, List.setIfInBounds_toArray, List.set_cons_succ, List.set_cons_zero] at ha
    subst ha
    refine MixH.takes [false, false, false, false, false, false, false, false, false, false, false, false, false, false, false, false, false, false, true, true, true, false, true] 5 (by kernel_rfl) (by kernel_rfl) (by decide) (by kernel_rfl) hS (fun K hK => ?_)
    simp only [Mix.pick]
    repeat (go_big_quiet_step (fail))
    refine wpQuiet_nil (hK _ ?_)
    clear hK K
    refine MixH.take 4 21 _ (undef) rfl (by kernel_rfl) (by kernel_rfl) (by kernel_rfl) (by kernel_rfl) (.inr ⟨rfl, rfl⟩) hS (fun a' ha => ?_)
    simp only [Act.put, List.setIfInBounds_toArray, List.set_cons_succ, List.set_cons_zero] at ha
    subst ha
    refine MixH.take 3 23 _ (undef) rfl (by kernel_rfl) (by kernel_rfl) (by kernel_rfl) (by kernel_rfl) (.inr ⟨rfl, rfl⟩) hS (fun a' ha => ?_)
    simp only [Act.put, List.setIfInBounds_toArray, List.set_cons_succ, List.set_cons_zero] at ha
    subst ha
    refine MixH.take 2 24 _ (undef) rfl (by kernel_rfl) (by kernel_rfl) (by kernel_rfl) (by kernel_rfl) (.inr ⟨rfl, rfl⟩) hS (fun a' ha => ?_)
    simp only [Act.put, List.setIfInBounds_toArray, List.set_cons_succ, List.set_cons_zero] at ha
    subst ha
    refine MixH.takes [false, false, false, false, false, false, false, false, false, false, false, false, false, false, false, false, false, false, false, false, false, false, false, false, false, true, true] 0 (by kernel_rfl) (by kernel_rfl) (by decide) (by kernel_rfl) hS (fun K hK => ?_)
    simp only [Mix.pick]
    repeat (go_big_quiet_step (fail))
    refine wpQuiet_nil (hK _ ?_)
    clear hK K
    refine MixH.done (by kernel_rfl) ?_
    clear hS
    have c35 := HA.out.2.1.c35
    go_wp2_with fail
    go_ret2
    exact ⟨by rw [HR.out]; rfl, HA.out.2.2⟩
  | false =>
    obtain ⟨b7, hb7⟩ : ∃ b, inR x.sp c.lo c.hi = b := ⟨_, rfl⟩
    have HB7 : Hid (inR x.sp c.lo c.hi = b7) := hb7
    clear hb7
    cases b7 with
    | false =>
      have HNO : Hid (fpO c E x = frF E x.pr c.lo (c.hi - c.lo + 1).toNat) := by show _ = _; unfold fpO; rw [HB6.out, HB7.out]; rfl
      go_upto_region 1 with fail
      rw [HOX.out, HWX.out]
      refine MixH.start (fun A => TA A t M N c E ∧ TupAt A B x) (by kernel_rfl) ?_
      obtain ⟨wA, hwA⟩ : ∃ wA, wA = W.drew := ⟨_, rfl⟩
      have bdr : Below W.heap.size W wA := by rw [hwA]; exact (Below.refl _ _).drew
      have hS : TA wA t M N c E ∧ TupAt wA B x := ⟨HT.out.below bdr, HBX.out.below bdr⟩
      have HA : Hid (TA wA t M N c E ∧ TupAt wA B x ∧ Below w.heap.size w wA) := ⟨hS.1, hS.2, bthen HLX.out bdr⟩
      rw [← hwA]
      clear hwA bdr
      have Q17 : Hid _ := within_any x.sp c.lo c.hi wA
      rw [HB7.out] at Q17
      refine MixH.takes [true, true] 25 (by kernel_rfl) (by kernel_rfl) (by decide) (by kernel_rfl) hS (fun K hK => ?_)
      simp only [Mix.pick]
      repeat (go_big_quiet_step (fail))
      refine wpQuiet_nil (hK _ ?_)
      clear hK K
      refine MixH.take 24 2 _ (.int .i64 x.sV) rfl (by kernel_rfl) (by kernel_rfl) (by kernel_rfl) (by kernel_rfl) (yields_int (.tmp 8) rfl ⟨B, 1, none⟩ (.int .i64 x.sV) rfl rfl (fun A hA => hA.2.c1)) hS (fun a' ha => ?_)
      simp only [Act.put, List.setIfInBounds_toArray, List.set_cons_succ, List.set_cons_zero] at ha
      subst ha
      refine MixH.takes [false, false, false, true, true, true, false, true, true, true, true, false, true, true, true, true] 13 (by kernel_rfl) (by kernel_rfl) (by decide) (by kernel_rfl) hS (fun K hK => ?_)
      simp only [Mix.pick]
      repeat (go_big_quiet_step (fail))
      refine wpQuiet_nil (hK _ ?_)
      clear hK K
      refine MixH.take 12 6 _ (.int .i64 x.sp) rfl (by kernel_rfl) (by kernel_rfl) (by kernel_rfl) (by kernel_rfl) (yields_int (.tmp 12) rfl ⟨B, 35, none⟩ (.int .i64 x.sp) rfl rfl (fun A hA => hA.2.c35)) hS (fun a' ha => ?_)
      simp only [Act.put, List.setIfInBounds_toArray, List.set_cons_succ, List.set_cons_zero] at ha
      subst ha
      refine MixH.take 11 11 _ (.int .i64 c.lo) rfl (by kernel_rfl) (by kernel_rfl) (by kernel_rfl) (by kernel_rfl) (yields_int (.tmp 17) rfl ⟨t, 18, none⟩ (.int .i64 c.lo) rfl rfl (fun A hA => TblAt.c18 hA.1.cb)) hS (fun a' ha => ?_)
      simp only [Act.put, List.setIfInBounds_toArray, List.set_cons_succ, List.set_cons_zero] at ha
      subst ha
      refine MixH.take 10 16 _ (.int .i64 c.hi) rfl (by kernel_rfl) (by kernel_rfl) (by kernel_rfl) (by kernel_rfl) (yields_int (.tmp 22) rfl ⟨t, 19, none⟩ (.int .i64 c.hi) rfl rfl (fun A hA => TblAt.c19 hA.1.cb)) hS (fun a' ha => ?_)
      simp only [Act.put, List.setIfInBounds_toArray, List.set_cons_succ, List.set_cons_zero] at ha
      subst ha
      refine MixH.one [false, false, false, false, false, false, false, false, false, false, false, false, false, false, false, false, false, true] 9 17 _ rfl rfl (by kernel_rfl) (by kernel_rfl) (fun K hK => ?_)
      simp only [Mix.pick]
      go_wp2_with fail
      refine Calls.mono Q17.out ?_
      rintro e1 w1 ⟨rfl, rfl⟩
      go_wp2_with fail
      refine ⟨rfl, hK _ _ hS ?_⟩
      clear hK K
      refine MixH.takes [false, false, false, false, false, false, false, false, false, false, false, false, false, false, false, false, false, false, true, true, true, false, true] 5 (by kernel_rfl) (by kernel_rfl) (by decide) (by kernel_rfl) hS (fun K hK => ?_)
      simp only [Mix.pick]
      repeat (go_big_quiet_step (fail))
      refine wpQuiet_nil (hK _ ?_)
      clear hK K
      refine MixH.take 4 21 _ (undef) rfl (by kernel_rfl) (by kernel_rfl) (by kernel_rfl) (by kernel_rfl) (.inr ⟨rfl, rfl⟩) hS (fun a' ha => ?_)
      simp only [Act.put, List.setIfInBounds_toArray, List.set_cons_succ, List.set_cons_zero] at ha
      subst ha
      refine MixH.take 3 23 _ (undef) rfl (by kernel_rfl) (by kernel_rfl) (by kernel_rfl) (by kernel_rfl) (.inr ⟨rfl, rfl⟩) hS (fun a' ha => ?_)
      simp only [Act.put, List.setIfInBounds_toArray, List.set_cons_succ, List.set_cons_zero] at ha
      subst ha
      refine MixH.take 2 24 _ (undef) rfl (by kernel_rfl) (by kernel_rfl) (by kernel_rfl) (by kernel_rfl) (.inr ⟨rfl, rfl⟩) hS (fun a' ha => ?_)
      simp only [Act.put, List.setIfInBounds_toArray, List.set_cons_succ, List.set_cons_zero] at ha
      subst ha
      refine MixH.takes [false, false, false, false, false, false, false, false, false, false, false, false, false, false, false, false, false, false, false, false, false, false, false, false, false, true, true] 0 (by kernel_rfl) (by kernel_rfl) (by decide) (by kernel_rfl) hS (fun K hK => ?_)
      simp only [Mix.pick]
      repeat (go_big_quiet_step (fail))
      refine wpQuiet_nil (hK _ ?_)
      clear hK K
      refine MixH.done (by kernel_rfl) ?_
      clear hS Q17 c1
      have d18 := TblAt.c18 HA.out.1.cb
      have d19 := TblAt.c19 HA.out.1.cb
      have d0 := HA.out.2.1.c0
      go_wp2_with fail
      go_loopw [6] (fun ix wr => ∃ (k : Nat) (p : Int), ix = .int .i64 p ∧ Hid (wr = wA ∧ p = c.lo + k ∧ k ≤ (c.hi - c.lo + 1).toNat ∧ frF E x.pr c.lo (c.hi - c.lo + 1).toNat = frF E x.pr p ((c.hi - c.lo + 1).toNat - k))) (fun ix _ => (c.hi + 1 - intOf ix).toNat)
      case atStart => exact ⟨0, c.lo, rfl, rfl, by simp, by omega, by simp⟩
      case round =>
        obtain ⟨k, p, rfl, HP⟩ := hrel
        obtain rfl := HP.out.1
        obtain ⟨b, hb⟩ : ∃ b, decide (p ≤ c.hi) = b := ⟨_, rfl⟩
        have HPB : Hid (decide (p ≤ c.hi) = b) := hb
        cases b with
        | false =>
          have HN : Hid (fpO c E x = none) := by
            have h1 := HP.out.2
            have h2 : ¬ p ≤ c.hi := by simpa using HPB.out
            have h3 : (c.hi - c.lo + 1).toNat - k = 0 := by omega
            show fpO c E x = none
            rw [HNO.out, h1.2.2, h3]
            rfl
          clear HPB
          go_wp2_with fail
          go_ret2
          exact ⟨by rw [HN.out]; rfl, HA.out.2.2⟩
        | true =>
          have HBD : Hid (p ≤ c.hi ∧ 1 ≤ p ∧ (c.hi - c.lo + 1).toNat - k = ((c.hi - c.lo + 1).toNat - (k + 1)) + 1) := by
            have h1 := HP.out.2
            have h2 : p ≤ c.hi := by simpa using HPB.out
            have h4 := HOK.out.lo
            exact ⟨h2, by omega, by omega⟩
          have wi : IntKind.i64.wrap (p + 1) = p + 1 := by have h2 := HBD.out; have h5 := HOK.out.tp; rw [IntKind.wrap_i64]; omega
          have QF : Hid _ := free_any t M N c E wr HA.out.1 x.pr p ⟨HXW.out.pr, by have h2 := HBD.out; have h5 := HOK.out.tp; exact wf_i64 (n := p) (by omega) (by omega)⟩
          obtain ⟨bf, hbf⟩ : ∃ b, frB E x.pr p = b := ⟨_, rfl⟩
          rw [hbf] at QF
          have HBF : Hid (frB E x.pr p = bf) := hbf
          clear HPB hbf
          go_wp2_with fail
          refine Calls.mono QF.out ?_
          rintro e1 w1 ⟨rfl, rfl⟩
          clear QF
          cases bf with
          | true =>
            have HN : Hid (fpO c E x = some p) := by
              show fpO c E x = some p
              rw [HNO.out, HP.out.2.2.2, HBD.out.2.2]
              unfold frF
              rw [HBF.out]
              rfl
            go_wp2_with fail
            go_ret2
            exact ⟨by rw [HN.out]; rfl, HA.out.2.2⟩
          | false =>
            go_wp2_with fail
            go_roundw
            case rel =>
              refine ⟨k + 1, p + 1, by first | rfl | go_num, by first | rfl | trivial, by have := HP.out.2.1; omega, by have := HBD.out; omega, ?_⟩
              rw [HP.out.2.2.2, HBD.out.2.2]
              conv => lhs; unfold frF
              rw [HBF.out]
              rfl
            case measure => have := HBD.out; first | (simp only [intOf]; omega) | go_num | omega
    | true =>
      obtain ⟨b8, hb8⟩ : ∃ b, frB E x.pr x.sp = b := ⟨_, rfl⟩
      have HB8 : Hid (frB E x.pr x.sp = b8) := hb8
      clear hb8
      go_upto_region 1 with fail
      rw [HOX.out, HWX.out]
      refine MixH.start (fun A => TA A t M N c E ∧ TupAt A B x) (by kernel_rfl) ?_
      obtain ⟨wA, hwA⟩ : ∃ wA, wA = W.drew := ⟨_, rfl⟩
      have bdr : Below W.heap.size W wA := by rw [hwA]; exact (Below.refl _ _).drew
      have hS : TA wA t M N c E ∧ TupAt wA B x := ⟨HT.out.below bdr, HBX.out.below bdr⟩
      have HA : Hid (TA wA t M N c E ∧ TupAt wA B x ∧ Below w.heap.size w wA) := ⟨hS.1, hS.2, bthen HLX.out bdr⟩
      rw [← hwA]
      clear hwA bdr
      have Q17 : Hid _ := within_any x.sp c.lo c.hi wA
      rw [HB7.out] at Q17
      have Q24 : Hid _ := free_any t M N c E wA HA.out.1 x.pr x.sp ⟨HXW.out.pr, HXW.out.sp⟩
      rw [HB8.out] at Q24
      refine MixH.takes [true, true] 25 (by kernel_rfl) (by kernel_rfl) (by decide) (by kernel_rfl) hS (fun K hK => ?_)
      simp only [Mix.pick]
      repeat (go_big_quiet_step (fail))
      refine wpQuiet_nil (hK _ ?_)
      clear hK K
      refine MixH.take 24 2 _ (.int .i64 x.sV) rfl (by kernel_rfl) (by kernel_rfl) (by kernel_rfl) (by kernel_rfl) (yields_int (.tmp 8) rfl ⟨B, 1, none⟩ (.int .i64 x.sV) rfl rfl (fun A hA => hA.2.c1)) hS (fun a' ha => ?_)
      simp only [Act.put, List.setIfInBounds_toArray, List.set_cons_succ, List.set_cons_zero] at ha
      subst ha
      refine MixH.takes [false, false, false, true, true, true, false, true, true, true, true, false, true, true, true, true] 13 (by kernel_rfl) (by kernel_rfl) (by decide) (by kernel_rfl) hS (fun K hK => ?_)
      simp only [Mix.pick]
      repeat (go_big_quiet_step (fail))
      refine wpQuiet_nil (hK _ ?_)
      clear hK K
      refine MixH.take 12 6 _ (.int .i64 x.sp) rfl (by kernel_rfl) (by kernel_rfl) (by kernel_rfl) (by kernel_rfl) (yields_int (.tmp 12) rfl ⟨B, 35, none⟩ (.int .i64 x.sp) rfl rfl (fun A hA => hA.2.c35)) hS (fun a' ha => ?_)
      simp only [Act.put, List.setIfInBounds_toArray, List.set_cons_succ, List.set_cons_zero] at ha
      subst ha
      refine MixH.take 11 11 _ (.int .i64 c.lo) rfl (by kernel_rfl) (by kernel_rfl) (by kernel_rfl) (by kernel_rfl) (yields_int (.tmp 17) rfl ⟨t, 18, none⟩ (.int .i64 c.lo) rfl rfl (fun A hA => TblAt.c18 hA.1.cb)) hS (fun a' ha => ?_)
      simp only [Act.put, List.setIfInBounds_toArray, List.set_cons_succ, List.set_cons_zero] at ha
      subst ha
      refine MixH.take 10 16 _ (.int .i64 c.hi) rfl (by kernel_rfl) (by kernel_rfl) (by kernel_rfl) (by kernel_rfl) (yields_int (.tmp 22) rfl ⟨t, 19, none⟩ (.int .i64 c.hi) rfl rfl (fun A hA => TblAt.c19 hA.1.cb)) hS (fun a' ha => ?_)
      simp only [Act.put, List.setIfInBounds_toArray, List.set_cons_succ, List.set_cons_zero] at ha
      subst ha
      refine MixH.one [false, false, false, false, false, false, false, false, false, false, false, false, false, false, false, false, false, true] 9 17 _ rfl rfl (by kernel_rfl) (by kernel_rfl) (fun K hK => ?_)
      simp only [Mix.pick]
      go_wp2_with fail
      refine Calls.mono Q17.out ?_
      rintro e1 w1 ⟨rfl, rfl⟩
      go_wp2_with fail
      refine ⟨rfl, hK _ _ hS ?_⟩
      clear hK K
      refine MixH.takes [false, false, false, false, false, false, false, false, false, false, false, false, false, false, false, false, false, false, true, true, true, false, true] 5 (by kernel_rfl) (by kernel_rfl) (by decide) (by kernel_rfl) hS (fun K hK => ?_)
      simp only [Mix.pick]
      repeat (go_big_quiet_step (fail))
      refine wpQuiet_nil (hK _ ?_)
      clear hK K
      refine MixH.take 4 21 _ (.int .i64 x.pr) rfl (by kernel_rfl) (by kernel_rfl) (by kernel_rfl) (by kernel_rfl) (yields_int (.tmp 27) rfl ⟨B, 0, none⟩ (.int .i64 x.pr) rfl rfl (fun A hA => hA.2.c0)) hS (fun a' ha => ?_)
      simp only [Act.put, List.setIfInBounds_toArray, List.set_cons_succ, List.set_cons_zero] at ha
      subst ha
      refine MixH.take 3 23 _ (.int .i64 x.sp) rfl (by kernel_rfl) (by kernel_rfl) (by kernel_rfl) (by kernel_rfl) (yields_int (.tmp 29) rfl ⟨B, 35, none⟩ (.int .i64 x.sp) rfl rfl (fun A hA => hA.2.c35)) hS (fun a' ha => ?_)
      simp only [Act.put, List.setIfInBounds_toArray, List.set_cons_succ, List.set_cons_zero] at ha
      subst ha
      refine MixH.one [false, false, false, false, false, false, false, false, false, false, false, false, false, false, false, false, false, false, false, false, false, false, false, false, true] 2 24 _ rfl rfl (by kernel_rfl) (by kernel_rfl) (fun K hK => ?_)
      simp only [Mix.pick]
      go_wp2_with fail
      refine Calls.mono Q24.out ?_
      rintro e1 w1 ⟨rfl, rfl⟩
      go_wp2_with fail
      refine ⟨rfl, hK _ _ hS ?_⟩
      clear hK K
      refine MixH.takes [false, false, false, false, false, false, false, false, false, false, false, false, false, false, false, false, false, false, false, false, false, false, false, false, false, true, true] 0 (by kernel_rfl) (by kernel_rfl) (by decide) (by kernel_rfl) hS (fun K hK => ?_)
      simp only [Mix.pick]
      repeat (go_big_quiet_step (fail))
      refine wpQuiet_nil (hK _ ?_)
      clear hK K
      refine MixH.done (by kernel_rfl) ?_
      clear hS Q17 Q24 c1
      have c35 := HA.out.2.1.c35
      have d18 := TblAt.c18 HA.out.1.cb
      have d19 := TblAt.c19 HA.out.1.cb
      have d0 := HA.out.2.1.c0
      cases b8 with
      | true =>
        have HR : Hid (fpO c E x = some x.sp) := by show _ = _; unfold fpO; rw [HB6.out, HB7.out, HB8.out]; rfl
        go_wp2_with fail
        go_ret2
        exact ⟨by rw [HR.out]; rfl, HA.out.2.2⟩
      | false =>
        have HNO : Hid (fpO c E x = frF E x.pr c.lo (c.hi - c.lo + 1).toNat) := by show _ = _; unfold fpO; rw [HB6.out, HB7.out, HB8.out]; rfl
        go_wp2_with fail
        go_loopw [6] (fun ix wr => ∃ (k : Nat) (p : Int), ix = .int .i64 p ∧ Hid (wr = wA ∧ p = c.lo + k ∧ k ≤ (c.hi - c.lo + 1).toNat ∧ frF E x.pr c.lo (c.hi - c.lo + 1).toNat = frF E x.pr p ((c.hi - c.lo + 1).toNat - k))) (fun ix _ => (c.hi + 1 - intOf ix).toNat)
        case atStart => exact ⟨0, c.lo, rfl, rfl, by simp, by omega, by simp⟩
        case round =>
          obtain ⟨k, p, rfl, HP⟩ := hrel
          obtain rfl := HP.out.1
          obtain ⟨b, hb⟩ : ∃ b, decide (p ≤ c.hi) = b := ⟨_, rfl⟩
          have HPB : Hid (decide (p ≤ c.hi) = b) := hb
          cases b with
          | false =>
            have HN : Hid (fpO c E x = none) := by
              have h1 := HP.out.2
              have h2 : ¬ p ≤ c.hi := by simpa using HPB.out
              have h3 : (c.hi - c.lo + 1).toNat - k = 0 := by omega
              show fpO c E x = none
              rw [HNO.out, h1.2.2, h3]
              rfl
            clear HPB
            go_wp2_with fail
            go_ret2
            exact ⟨by rw [HN.out]; rfl, HA.out.2.2⟩
          | true =>
            have HBD : Hid (p ≤ c.hi ∧ 1 ≤ p ∧ (c.hi - c.lo + 1).toNat - k = ((c.hi - c.lo + 1).toNat - (k + 1)) + 1) := by
              have h1 := HP.out.2
              have h2 : p ≤ c.hi := by simpa using HPB.out
              have h4 := HOK.out.lo
              exact ⟨h2, by omega, by omega⟩
            have wi : IntKind.i64.wrap (p + 1) = p + 1 := by have h2 := HBD.out; have h5 := HOK.out.tp; rw [IntKind.wrap_i64]; omega
            have QF : Hid _ := free_any t M N c E wr HA.out.1 x.pr p ⟨HXW.out.pr, by have h2 := HBD.out; have h5 := HOK.out.tp; exact wf_i64 (n := p) (by omega) (by omega)⟩
            obtain ⟨bf, hbf⟩ : ∃ b, frB E x.pr p = b := ⟨_, rfl⟩
            rw [hbf] at QF
            have HBF : Hid (frB E x.pr p = bf) := hbf
            clear HPB hbf
            go_wp2_with fail
            refine Calls.mono QF.out ?_
            rintro e1 w1 ⟨rfl, rfl⟩
            clear QF
            cases bf with
            | true =>
              have HN : Hid (fpO c E x = some p) := by
                show fpO c E x = some p
                rw [HNO.out, HP.out.2.2.2, HBD.out.2.2]
                unfold frF
                rw [HBF.out]
                rfl
              go_wp2_with fail
              go_ret2
              exact ⟨by rw [HN.out]; rfl, HA.out.2.2⟩
            | false =>
              go_wp2_with fail
              go_roundw
              case rel =>
                refine ⟨k + 1, p + 1, by first | rfl | go_num, by first | rfl | trivial, by have := HP.out.2.1; omega, by have := HBD.out; omega, ?_⟩
                rw [HP.out.2.2.2, HBD.out.2.2]
                conv => lhs; unfold frF
                rw [HBF.out]
                rfl
              case measure => have := HBD.out; first | (simp only [intOf]; omega) | go_num | omega
end Go.Proofs.YtclpeepnngegaaaDoor
