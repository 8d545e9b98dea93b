/-
  FlFn4 FlFn5: lemmas of the proof of FlowPlays, and walks through the functions that it calls.
-/
import Derived.Test.YtclpeepnngegaaaGreatDoorP00
import Derived.Test.YtclpeepnngegaaaGreatDoorP07
namespace Go.Proofs.YtclpeepnngegaaaGreatDoor
open Go.RowKit Go.Maps
structure CfOk (c : CF) : Prop where
  mx : 1 ≤ c.mx ∧ c.mx ≤ 4096
  oV : c.oV = 4
  o : ∀ i, i < 16 → c.o i < 256
  lo : 1 ≤ c.lo
  hi : c.lo ≤ c.hi
  tp : c.hi ≤ 65535
  sy : 1 ≤ c.sy ∧ c.sy ≤ 1048576
  tc : 1 ≤ c.tc ∧ c.tc ≤ 1048576
  fi : 1 ≤ c.fi ∧ c.fi ≤ 1048576
  ud : 1 ≤ c.ud ∧ c.ud ≤ 1048576
  ic : 1 ≤ c.ic ∧ c.ic ≤ 1048576
def frF (E : List FV) (pr : Int) : Int → Nat → Option Int
 | _, 0 => none
 | lo, n + 1 => if frB E pr lo then some lo else frF E pr (lo + 1) n
def fpO (c : CF) (E : List FV) (x : TU) : Option Int := if x.sV == 6 || (inR x.sp c.lo c.hi && frB E x.pr x.sp) then some x.sp else frF E x.pr c.lo (c.hi - c.lo + 1).toNat
theorem frF_some {E : List FV} {pr : Int} : ∀ {n : Nat} {lo p : Int}, frF E pr lo n = some p → frB E pr p = true ∧ lo ≤ p ∧ p < lo + n
 | 0, lo, p, h => by cases h
 | n + 1, lo, p, h => by
  unfold frF at h
  cases hb : frB E pr lo with
  | true =>
   rw [hb, if_pos rfl] at h
   obtain rfl := Option.some.inj h
   exact ⟨hb, by omega, by omega⟩
  | false =>
   rw [hb, if_neg (by decide)] at h
   obtain ⟨h1, h2, h3⟩ := frF_some h
   exact ⟨h1, by omega, by omega⟩
theorem fpO_some {c : CF} {E : List FV} {x : TU} {p : Int} (h : fpO c E x = some p) (hc : CfOk c) (h6 : (x.sV == 6) = false) : frB E x.pr p = true ∧ c.lo ≤ p ∧ p ≤ c.hi := by
 unfold fpO at h
 rw [h6, Bool.false_or] at h
 cases hb : (inR x.sp c.lo c.hi && frB E x.pr x.sp) with
 | true =>
  rw [hb, if_pos rfl] at h
  obtain rfl := Option.some.inj h
  simp only [Bool.and_eq_true, inR, decide_eq_true_eq] at hb
  exact ⟨hb.2, hb.1.1, hb.1.2⟩
 | false =>
  rw [hb, if_neg (by decide)] at h
  obtain ⟨h1, h2, h3⟩ := frF_some h
  have := hc.hi
  exact ⟨h1, h2, by omega⟩
theorem wf_i64 {n : Int} (h1 : -9223372036854775808 ≤ n) (h2 : n ≤ 9223372036854775807) : (Lit.int .i64 n).wf = true := by
 have e1 : IntKind.i64.min = -9223372036854775808 := rfl
 have e2 : IntKind.i64.max = 9223372036854775807 := rfl
 simp [Lit.wf, e1, e2]
 omega
theorem TblAt.c18 {w : World} {t M N : Nat} {c : CF} (k : TblAt w t c M N) : w.cell? ⟨t, 18, none⟩ = some (.int .i64 c.lo) := TblAt.cell k 18
theorem TblAt.c19 {w : World} {t M N : Nat} {c : CF} (k : TblAt w t c M N) : w.cell? ⟨t, 19, none⟩ = some (.int .i64 c.hi) := TblAt.cell k 19
theorem TblAt.c0 {w : World} {t M N : Nat} {c : CF} (k : TblAt w t c M N) : w.cell? ⟨t, 0, none⟩ = some (.int .i64 c.mx) := TblAt.cell k 0
def okV : Option Int → Value
 | none => .tuple #[.int .i64 0, .bool false]
 | some p => .tuple #[.int .i64 p, .bool true]
set_option maxHeartbeats 1600000 in
set_option maxRecDepth 100000 in
theorem freePort_any (t M N : Nat) (c : CF) (E : List FV) (w : World) (h : TA w t M N c E) (hc : CfOk c) (x : TU) (hx : x.Wf) : Calls Tryz.prog 50 #[.pointer (some ⟨t, 0, none⟩), .agg (tuC x)] w fun r w' => r = .returned (okV (fpO c E x)) ∧ Below w.heap.size w w' := by
 have HOK : Hid (CfOk c) := hc
 have HXW : Hid x.Wf := hx
 have HH : Hid (TA w t M N c E) := h
 clear hc hx h
 obtain ⟨W, B, HSZX, HOX, HLX, HWX, hb⟩ := zBx w (tuC x) 38
 have HBX : Hid (TupAt W B x) := hb
 obtain ⟨CX, hC⟩ : ∃ C, C = tuC x := ⟨_, rfl⟩
 rw [← hC] at HWX ⊢
 clear hb hC
 have HT : Hid (TA W t M N c E) := HH.out.below HLX.out
 have c1 := HBX.out.c1
 obtain ⟨b6, hb6⟩ : ∃ b, (x.sV == 6) = b := ⟨_, rfl⟩
 have HB6 : Hid ((x.sV == 6) = b6) := hb6
 go_enter Tryz.func50, Tryz.ntmps50
 cases b6 with
 | true =>
  have HR : Hid (fpO c E x = some x.sp) := by show _ = _; unfold fpO; rw [HB6.out]; rfl
  go_upto_region 1 with fail
  rw [HOX.out, HWX.out]
  refine MixH.start (fun A => TA A t M N c E ∧ TupAt A B x) (by kernel_rfl) ?_
  obtain ⟨wA, hwA⟩ : ∃ wA, wA = W.drew := ⟨_, rfl⟩
  have bdr := zDr hwA
  have hS : TA wA t M N c E ∧ TupAt wA B x := ⟨HT.out.below bdr, HBX.out.below bdr⟩
  have HA : Hid (TA wA t M N c E ∧ TupAt wA B x ∧ Below w.heap.size w wA) := ⟨hS.1, hS.2, bthen HLX.out bdr⟩
  rw [← hwA]
  clear hwA bdr
  refine MixH.tks [true, true] 25 hS (fun K hK => ?_)
  simp only [Mix.pick]
  repeat (go_big_quiet_step (fail))
  refine wpQuiet_nil (hK _ ?_)
  clear hK K
  refine MixH.tk 24 2 rfl (.int .i64 x.sV) (yields_int (.tmp 8) rfl ⟨B, 1, none⟩ (.int .i64 x.sV) rfl rfl (fun A hA => hA.2.c1)) hS (fun a' ha => ?_)
  simp only [zP1, zP2, zP3, zP4] at ha
  subst ha
  refine MixH.tks [false, false, false, true, true, true, false, true, true, true, true, false, true, true, true, true] 13 hS (fun K hK => ?_)
  simp only [Mix.pick]
  repeat (go_big_quiet_step (fail))
  refine wpQuiet_nil (hK _ ?_)
  clear hK K
  refine MixH.tk 12 6 rfl (undef) (.inr ⟨rfl, rfl⟩) hS (fun a' ha => ?_)
  simp only [zP1, zP2, zP3, zP4] at ha
  subst ha
  refine MixH.tk 11 11 rfl (undef) (.inr ⟨rfl, rfl⟩) hS (fun a' ha => ?_)
  simp only [zP1, zP2, zP3, zP4] at ha
  subst ha
  refine MixH.tk 10 16 rfl (undef) (.inr ⟨rfl, rfl⟩) hS (fun a' ha => ?_)
  simp only [zP1, zP2, zP3, zP4] at ha
  subst ha
  refine MixH.tk 9 17 rfl (undef) (.inr ⟨rfl, rfl⟩) hS (fun a' ha => ?_)
  simp only [zP1, zP2, zP3, zP4] at ha
  subst ha
  refine MixH.tks [false, false, false, false, false, false, false, false, false, false, false, false, false, false, false, false, false, false, true, true, true, false, true] 5 hS (fun K hK => ?_)
  simp only [Mix.pick]
  repeat (go_big_quiet_step (fail))
  refine wpQuiet_nil (hK _ ?_)
  clear hK K
  refine MixH.tk 4 21 rfl (undef) (.inr ⟨rfl, rfl⟩) hS (fun a' ha => ?_)
  simp only [zP1, zP2, zP3, zP4] at ha
  subst ha
  refine MixH.tk 3 23 rfl (undef) (.inr ⟨rfl, rfl⟩) hS (fun a' ha => ?_)
  simp only [zP1, zP2, zP3, zP4] at ha
  subst ha
  refine MixH.tk 2 24 rfl (undef) (.inr ⟨rfl, rfl⟩) hS (fun a' ha => ?_)
  simp only [zP1, zP2, zP3, zP4] at ha
  subst ha
  refine MixH.tks [false, false, false, false, false, false, false, false, false, false, false, false, false, false, false, false, false, false, false, false, false, false, false, false, false, true, true] 0 hS (fun K hK => ?_)
  simp only [Mix.pick]
  repeat (go_big_quiet_step (fail))
  refine wpQuiet_nil (hK _ ?_)
  clear hK K
  refine MixH.done (by kernel_rfl) ?_
  clear hS
  have c35 := HA.out.2.1.c35
  go_wp2_with fail
  go_ret2
  exact ⟨by rw [HR.out]; rfl, HA.out.2.2⟩
 | false =>
  obtain ⟨b7, hb7⟩ : ∃ b, inR x.sp c.lo c.hi = b := ⟨_, rfl⟩
  have HB7 : Hid (inR x.sp c.lo c.hi = b7) := hb7
  clear hb7
  cases b7 with
  | false =>
   have HNO : Hid (fpO c E x = frF E x.pr c.lo (c.hi - c.lo + 1).toNat) := by show _ = _; unfold fpO; rw [HB6.out, HB7.out]; rfl
   go_upto_region 1 with fail
   rw [HOX.out, HWX.out]
   refine MixH.start (fun A => TA A t M N c E ∧ TupAt A B x) (by kernel_rfl) ?_
   obtain ⟨wA, hwA⟩ : ∃ wA, wA = W.drew := ⟨_, rfl⟩
   have bdr := zDr hwA
   have hS : TA wA t M N c E ∧ TupAt wA B x := ⟨HT.out.below bdr, HBX.out.below bdr⟩
   have HA : Hid (TA wA t M N c E ∧ TupAt wA B x ∧ Below w.heap.size w wA) := ⟨hS.1, hS.2, bthen HLX.out bdr⟩
   rw [← hwA]
   clear hwA bdr
   have Q17 : Hid _ := within_any x.sp c.lo c.hi wA
   rw [HB7.out] at Q17
   refine MixH.tks [true, true] 25 hS (fun K hK => ?_)
   simp only [Mix.pick]
   repeat (go_big_quiet_step (fail))
   refine wpQuiet_nil (hK _ ?_)
   clear hK K
   refine MixH.tk 24 2 rfl (.int .i64 x.sV) (yields_int (.tmp 8) rfl ⟨B, 1, none⟩ (.int .i64 x.sV) rfl rfl (fun A hA => hA.2.c1)) hS (fun a' ha => ?_)
   simp only [zP1, zP2, zP3, zP4] at ha
   subst ha
   refine MixH.tks [false, false, false, true, true, true, false, true, true, true, true, false, true, true, true, true] 13 hS (fun K hK => ?_)
   simp only [Mix.pick]
   repeat (go_big_quiet_step (fail))
   refine wpQuiet_nil (hK _ ?_)
   clear hK K
   refine MixH.tk 12 6 rfl (.int .i64 x.sp) (yields_int (.tmp 12) rfl ⟨B, 35, none⟩ (.int .i64 x.sp) rfl rfl (fun A hA => hA.2.c35)) hS (fun a' ha => ?_)
   simp only [zP1, zP2, zP3, zP4] at ha
   subst ha
   refine MixH.tk 11 11 rfl (.int .i64 c.lo) (yields_int (.tmp 17) rfl ⟨t, 18, none⟩ (.int .i64 c.lo) rfl rfl (fun A hA => TblAt.c18 hA.1.cb)) hS (fun a' ha => ?_)
   simp only [zP1, zP2, zP3, zP4] at ha
   subst ha
   refine MixH.tk 10 16 rfl (.int .i64 c.hi) (yields_int (.tmp 22) rfl ⟨t, 19, none⟩ (.int .i64 c.hi) rfl rfl (fun A hA => TblAt.c19 hA.1.cb)) hS (fun a' ha => ?_)
   simp only [zP1, zP2, zP3, zP4] at ha
   subst ha
   refine MixH.one [false, false, false, false, false, false, false, false, false, false, false, false, false, false, false, false, false, true] 9 17 _ rfl rfl (by kernel_rfl) (by kernel_rfl) (fun K hK => ?_)
   simp only [Mix.pick]
   go_wp2_with fail
   refine Calls.mono Q17.out ?_
   rintro e1 w1 ⟨rfl, rfl⟩
   go_wp2_with fail
   refine ⟨rfl, hK _ _ hS ?_⟩
   clear hK K
   refine MixH.tks [false, false, false, false, false, false, false, false, false, false, false, false, false, false, false, false, false, false, true, true, true, false, true] 5 hS (fun K hK => ?_)
   simp only [Mix.pick]
   repeat (go_big_quiet_step (fail))
   refine wpQuiet_nil (hK _ ?_)
   clear hK K
   refine MixH.tk 4 21 rfl (undef) (.inr ⟨rfl, rfl⟩) hS (fun a' ha => ?_)
   simp only [zP1, zP2, zP3, zP4] at ha
   subst ha
   refine MixH.tk 3 23 rfl (undef) (.inr ⟨rfl, rfl⟩) hS (fun a' ha => ?_)
   simp only [zP1, zP2, zP3, zP4] at ha
   subst ha
   refine MixH.tk 2 24 rfl (undef) (.inr ⟨rfl, rfl⟩) hS (fun a' ha => ?_)
   simp only [zP1, zP2, zP3, zP4] at ha
   subst ha
   refine MixH.tks [false, false, false, false, false, false, false, false, false, false, false, false, false, false, false, false, false, false, false, false, false, false, false, false, false, true, true] 0 hS (fun K hK => ?_)
   simp only [Mix.pick]
   repeat (go_big_quiet_step (fail))
   refine wpQuiet_nil (hK _ ?_)
   clear hK K
   refine MixH.done (by kernel_rfl) ?_
   clear hS Q17 c1
   have d18 := TblAt.c18 HA.out.1.cb
   have d19 := TblAt.c19 HA.out.1.cb
   have d0 := HA.out.2.1.c0
   go_wp2_with fail
   go_loopw [6] (fun ix wr => ∃ (k : Nat) (p : Int), ix = .int .i64 p ∧ Hid (wr = wA ∧ p = c.lo + k ∧ k ≤ (c.hi - c.lo + 1).toNat ∧ frF E x.pr c.lo (c.hi - c.lo + 1).toNat = frF E x.pr p ((c.hi - c.lo + 1).toNat - k))) (fun ix _ => (c.hi + 1 - intOf ix).toNat)
   case atStart => exact ⟨0, c.lo, rfl, rfl, by simp, by omega, by simp⟩
   case round =>
    obtain ⟨k, p, rfl, HP⟩ := hrel
    obtain rfl := HP.out.1
    obtain ⟨b, hb⟩ : ∃ b, decide (p ≤ c.hi) = b := ⟨_, rfl⟩
    have HPB : Hid (decide (p ≤ c.hi) = b) := hb
    cases b with
    | false =>
     have HN : Hid (fpO c E x = none) := by
      have h1 := HP.out.2
      have h2 : ¬ p ≤ c.hi := by simpa using HPB.out
      have h3 : (c.hi - c.lo + 1).toNat - k = 0 := by omega
      show fpO c E x = none
      rw [HNO.out, h1.2.2, h3]
      rfl
     clear HPB
     go_wp2_with fail
     go_ret2
     exact ⟨by rw [HN.out]; rfl, HA.out.2.2⟩
    | true =>
     have HBD : Hid (p ≤ c.hi ∧ 1 ≤ p ∧ (c.hi - c.lo + 1).toNat - k = ((c.hi - c.lo + 1).toNat - (k + 1)) + 1) := by
      have h1 := HP.out.2
      have h2 : p ≤ c.hi := by simpa using HPB.out
      have h4 := HOK.out.lo
      exact ⟨h2, by omega, by omega⟩
     have wi : IntKind.i64.wrap (p + 1) = p + 1 := by have h2 := HBD.out; have h5 := HOK.out.tp; rw [IntKind.wrap_i64]; omega
     have QF : Hid _ := free_any t M N c E wr HA.out.1 x.pr p ⟨HXW.out.pr, by have h2 := HBD.out; have h5 := HOK.out.tp; exact wf_i64 (n := p) (by omega) (by omega)⟩
     obtain ⟨bf, hbf⟩ : ∃ b, frB E x.pr p = b := ⟨_, rfl⟩
     rw [hbf] at QF
     have HBF : Hid (frB E x.pr p = bf) := hbf
     clear HPB hbf
     go_wp2_with fail
     refine Calls.mono QF.out ?_
     rintro e1 w1 ⟨rfl, rfl⟩
     clear QF
     cases bf with
     | true =>
      have HN : Hid (fpO c E x = some p) := by
       show fpO c E x = some p
       rw [HNO.out, HP.out.2.2.2, HBD.out.2.2]
       unfold frF
       rw [HBF.out]
       rfl
      go_wp2_with fail
      go_ret2
      exact ⟨by rw [HN.out]; rfl, HA.out.2.2⟩
     | false =>
      go_wp2_with fail
      go_roundw
      case rel =>
       refine ⟨k + 1, p + 1, by first | rfl | go_num, by first | rfl | trivial, by have := HP.out.2.1; omega, by have := HBD.out; omega, ?_⟩
       rw [HP.out.2.2.2, HBD.out.2.2]
       conv => lhs; unfold frF
       rw [HBF.out]
       rfl
      case measure => have := HBD.out; first | (simp only [intOf]; omega) | go_num | omega
  | true =>
   obtain ⟨b8, hb8⟩ : ∃ b, frB E x.pr x.sp = b := ⟨_, rfl⟩
   have HB8 : Hid (frB E x.pr x.sp = b8) := hb8
   clear hb8
   go_upto_region 1 with fail
   rw [HOX.out, HWX.out]
   refine MixH.start (fun A => TA A t M N c E ∧ TupAt A B x) (by kernel_rfl) ?_
   obtain ⟨wA, hwA⟩ : ∃ wA, wA = W.drew := ⟨_, rfl⟩
   have bdr := zDr hwA
   have hS : TA wA t M N c E ∧ TupAt wA B x := ⟨HT.out.below bdr, HBX.out.below bdr⟩
   have HA : Hid (TA wA t M N c E ∧ TupAt wA B x ∧ Below w.heap.size w wA) := ⟨hS.1, hS.2, bthen HLX.out bdr⟩
   rw [← hwA]
   clear hwA bdr
   have Q17 : Hid _ := within_any x.sp c.lo c.hi wA
   rw [HB7.out] at Q17
   have Q24 : Hid _ := free_any t M N c E wA HA.out.1 x.pr x.sp ⟨HXW.out.pr, HXW.out.sp⟩
   rw [HB8.out] at Q24
   refine MixH.tks [true, true] 25 hS (fun K hK => ?_)
   simp only [Mix.pick]
   repeat (go_big_quiet_step (fail))
   refine wpQuiet_nil (hK _ ?_)
   clear hK K
   refine MixH.tk 24 2 rfl (.int .i64 x.sV) (yields_int (.tmp 8) rfl ⟨B, 1, none⟩ (.int .i64 x.sV) rfl rfl (fun A hA => hA.2.c1)) hS (fun a' ha => ?_)
   simp only [zP1, zP2, zP3, zP4] at ha
   subst ha
   refine MixH.tks [false, false, false, true, true, true, false, true, true, true, true, false, true, true, true, true] 13 hS (fun K hK => ?_)
   simp only [Mix.pick]
   repeat (go_big_quiet_step (fail))
   refine wpQuiet_nil (hK _ ?_)
   clear hK K
   refine MixH.tk 12 6 rfl (.int .i64 x.sp) (yields_int (.tmp 12) rfl ⟨B, 35, none⟩ (.int .i64 x.sp) rfl rfl (fun A hA => hA.2.c35)) hS (fun a' ha => ?_)
   simp only [zP1, zP2, zP3, zP4] at ha
   subst ha
   refine MixH.tk 11 11 rfl (.int .i64 c.lo) (yields_int (.tmp 17) rfl ⟨t, 18, none⟩ (.int .i64 c.lo) rfl rfl (fun A hA => TblAt.c18 hA.1.cb)) hS (fun a' ha => ?_)
   simp only [zP1, zP2, zP3, zP4] at ha
   subst ha
   refine MixH.tk 10 16 rfl (.int .i64 c.hi) (yields_int (.tmp 22) rfl ⟨t, 19, none⟩ (.int .i64 c.hi) rfl rfl (fun A hA => TblAt.c19 hA.1.cb)) hS (fun a' ha => ?_)
   simp only [zP1, zP2, zP3, zP4] at ha
   subst ha
   refine MixH.one [false, false, false, false, false, false, false, false, false, false, false, false, false, false, false, false, false, true] 9 17 _ rfl rfl (by kernel_rfl) (by kernel_rfl) (fun K hK => ?_)
   simp only [Mix.pick]
   go_wp2_with fail
   refine Calls.mono Q17.out ?_
   rintro e1 w1 ⟨rfl, rfl⟩
   go_wp2_with fail
   refine ⟨rfl, hK _ _ hS ?_⟩
   clear hK K
   refine MixH.tks [false, false, false, false, false, false, false, false, false, false, false, false, false, false, false, false, false, false, true, true, true, false, true] 5 hS (fun K hK => ?_)
   simp only [Mix.pick]
   repeat (go_big_quiet_step (fail))
   refine wpQuiet_nil (hK _ ?_)
   clear hK K
   refine MixH.tk 4 21 rfl (.int .i64 x.pr) (yields_int (.tmp 27) rfl ⟨B, 0, none⟩ (.int .i64 x.pr) rfl rfl (fun A hA => hA.2.c0)) hS (fun a' ha => ?_)
   simp only [zP1, zP2, zP3, zP4] at ha
   subst ha
   refine MixH.tk 3 23 rfl (.int .i64 x.sp) (yields_int (.tmp 29) rfl ⟨B, 35, none⟩ (.int .i64 x.sp) rfl rfl (fun A hA => hA.2.c35)) hS (fun a' ha => ?_)
   simp only [zP1, zP2, zP3, zP4] at ha
   subst ha
   refine MixH.one [false, false, false, false, false, false, false, false, false, false, false, false, false, false, false, false, false, false, false, false, false, false, false, false, true] 2 24 _ rfl rfl (by kernel_rfl) (by kernel_rfl) (fun K hK => ?_)
   simp only [Mix.pick]
   go_wp2_with fail
   refine Calls.mono Q24.out ?_
   rintro e1 w1 ⟨rfl, rfl⟩
   go_wp2_with fail
   refine ⟨rfl, hK _ _ hS ?_⟩
   clear hK K
   refine MixH.tks [false, false, false, false, false, false, false, false, false, false, false, false, false, false, false, false, false, false, false, false, false, false, false, false, false, true, true] 0 hS (fun K hK => ?_)
   simp only [Mix.pick]
   repeat (go_big_quiet_step (fail))
   refine wpQuiet_nil (hK _ ?_)
   clear hK K
   refine MixH.done (by kernel_rfl) ?_
   clear hS Q17 Q24 c1
   have c35 := HA.out.2.1.c35
   have d18 := TblAt.c18 HA.out.1.cb
   have d19 := TblAt.c19 HA.out.1.cb
   have d0 := HA.out.2.1.c0
   cases b8 with
   | true =>
    have HR : Hid (fpO c E x = some x.sp) := by show _ = _; unfold fpO; rw [HB6.out, HB7.out, HB8.out]; rfl
    go_wp2_with fail
    go_ret2
    exact ⟨by rw [HR.out]; rfl, HA.out.2.2⟩
   | false =>
    have HNO : Hid (fpO c E x = frF E x.pr c.lo (c.hi - c.lo + 1).toNat) := by show _ = _; unfold fpO; rw [HB6.out, HB7.out, HB8.out]; rfl
    go_wp2_with fail
    go_loopw [6] (fun ix wr => ∃ (k : Nat) (p : Int), ix = .int .i64 p ∧ Hid (wr = wA ∧ p = c.lo + k ∧ k ≤ (c.hi - c.lo + 1).toNat ∧ frF E x.pr c.lo (c.hi - c.lo + 1).toNat = frF E x.pr p ((c.hi - c.lo + 1).toNat - k))) (fun ix _ => (c.hi + 1 - intOf ix).toNat)
    case atStart => exact ⟨0, c.lo, rfl, rfl, by simp, by omega, by simp⟩
    case round =>
     obtain ⟨k, p, rfl, HP⟩ := hrel
     obtain rfl := HP.out.1
     obtain ⟨b, hb⟩ : ∃ b, decide (p ≤ c.hi) = b := ⟨_, rfl⟩
     have HPB : Hid (decide (p ≤ c.hi) = b) := hb
     cases b with
     | false =>
      have HN : Hid (fpO c E x = none) := by
       have h1 := HP.out.2
       have h2 : ¬ p ≤ c.hi := by simpa using HPB.out
       have h3 : (c.hi - c.lo + 1).toNat - k = 0 := by omega
       show fpO c E x = none
       rw [HNO.out, h1.2.2, h3]
       rfl
      clear HPB
      go_wp2_with fail
      go_ret2
      exact ⟨by rw [HN.out]; rfl, HA.out.2.2⟩
     | true =>
      have HBD : Hid (p ≤ c.hi ∧ 1 ≤ p ∧ (c.hi - c.lo + 1).toNat - k = ((c.hi - c.lo + 1).toNat - (k + 1)) + 1) := by
       have h1 := HP.out.2
       have h2 : p ≤ c.hi := by simpa using HPB.out
       have h4 := HOK.out.lo
       exact ⟨h2, by omega, by omega⟩
      have wi : IntKind.i64.wrap (p + 1) = p + 1 := by have h2 := HBD.out; have h5 := HOK.out.tp; rw [IntKind.wrap_i64]; omega
      have QF : Hid _ := free_any t M N c E wr HA.out.1 x.pr p ⟨HXW.out.pr, by have h2 := HBD.out; have h5 := HOK.out.tp; exact wf_i64 (n := p) (by omega) (by omega)⟩
      obtain ⟨bf, hbf⟩ : ∃ b, frB E x.pr p = b := ⟨_, rfl⟩
      rw [hbf] at QF
      have HBF : Hid (frB E x.pr p = bf) := hbf
      clear HPB hbf
      go_wp2_with fail
      refine Calls.mono QF.out ?_
      rintro e1 w1 ⟨rfl, rfl⟩
      clear QF
      cases bf with
      | true =>
       have HN : Hid (fpO c E x = some p) := by
        show fpO c E x = some p
        rw [HNO.out, HP.out.2.2.2, HBD.out.2.2]
        unfold frF
        rw [HBF.out]
        rfl
       go_wp2_with fail
       go_ret2
       exact ⟨by rw [HN.out]; rfl, HA.out.2.2⟩
      | false =>
       go_wp2_with fail
       go_roundw
       case rel =>
        refine ⟨k + 1, p + 1, by first | rfl | go_num, by first | rfl | trivial, by have := HP.out.2.1; omega, by have := HBD.out; omega, ?_⟩
        rw [HP.out.2.2.2, HBD.out.2.2]
        conv => lhs; unfold frF
        rw [HBF.out]
        rfl
       case measure => have := HBD.out; first | (simp only [intOf]; omega) | go_num | omega
end Go.Proofs.YtclpeepnngegaaaGreatDoor
namespace Go.Proofs.YtclpeepnngegaaaGreatDoor
open Go.RowKit Go.Maps
theorem tu_part0 (x : TU) (w : World) : (part 3 (tuC x) 0).run Tryz.prog w = .ok (.int .i64 x.pr) w := by kernel_rfl
theorem tu_part1 (x : TU) (w : World) : (part 24 (tuC x) 1).run Tryz.prog w = .ok (.agg (ipCells x.sV x.s)) w := by kernel_rfl
theorem tu_part2 (x : TU) (w : World) : (part 24 (tuC x) 18).run Tryz.prog w = .ok (.agg (ipCells x.dV x.d)) w := by kernel_rfl
theorem tu_part3 (x : TU) (w : World) : (part 3 (tuC x) 35).run Tryz.prog w = .ok (.int .i64 x.sp) w := by kernel_rfl
theorem tu_part4 (x : TU) (w : World) : (part 3 (tuC x) 36).run Tryz.prog w = .ok (.int .i64 x.dp) w := by kernel_rfl
theorem Tryz.tuFields : Tryz.prog.underlying 38 = some (.struct (Tryz.prog.fieldsOf 38)) := by kernel_rfl
theorem Tryz.tuStood : Tryz.prog.stoodInHeld 38 = false := by kernel_rfl
set_option maxHeartbeats 1600000 in
set_option maxRecDepth 100000 in
theorem eqTu (x y : TU) (w : World) (d : Nat) : (Op.equalIn (d + 5) 38 (.agg (tuC x)) (.agg (tuC y))).run Tryz.prog w = .ok (eqP x y) w := by
 rw [show (d + 5 : Nat) = (d + 4) + 1 from rfl, run_equalIn_struct w (d + 4) 38 _ _ Tryz.tuFields Tryz.tuStood]
 rw [show (Tryz.prog.fieldsOf 38).toList = [{ name := "Proto", type := 3, offset := 0, embedded := false, tag := "", pkgPath := "", byteOffset := 0 }, { name := "Src", type := 24, offset := 1, embedded := false, tag := "", pkgPath := "", byteOffset := 8 }, { name := "Dst", type := 24, offset := 18, embedded := false, tag := "", pkgPath := "", byteOffset := 32 }, { name := "Sport", type := 3, offset := 35, embedded := false, tag := "", pkgPath := "", byteOffset := 56 }, { name := "Dport", type := 3, offset := 36, embedded := false, tag := "", pkgPath := "", byteOffset := 64 }] from by kernel_rfl]
 simp only [Op.eqFields, Sem.run_bind, Sem.run_ite]
 rw [if_pos (by decide)]
 simp only [tu_part0, Result.andThen_ok]
 rw [show (d + 4 : Nat) = (d + 3) + 1 from rfl, run_equalIn_int w (d + 3) 3 .i64 .i64 x.pr y.pr Tryz.underlying3]
 unfold eqP
 cases h : x.pr == y.pr
 · simp
 · simp only [Result.andThen_ok, Bool.not_true, Bool.false_eq_true, if_false, tu_part1]
   rw [if_pos (by decide), show (d + 3 + 1 : Nat) = (d + 1) + 3 from rfl]
   simp only [eqIP, Result.andThen_ok]
   cases h2 : (x.sV == y.sV && same16 x.s y.s)
   · simp
   · simp only [Bool.not_true, Bool.false_eq_true, if_false, tu_part2, Result.andThen_ok]
     rw [if_pos (by decide)]
     simp only [eqIP, Result.andThen_ok]
     cases h3 : (x.dV == y.dV && same16 x.d y.d)
     · simp
     · simp only [Bool.not_true, Bool.false_eq_true, if_false, tu_part3, Result.andThen_ok]
       rw [if_pos (by decide), show (d + 1 + 3 : Nat) = (d + 3) + 1 from rfl, run_equalIn_int w (d + 3) 3 .i64 .i64 x.sp y.sp Tryz.underlying3]
       cases h4 : x.sp == y.sp
       · simp
       · simp only [Result.andThen_ok, Bool.not_true, Bool.false_eq_true, if_false, tu_part4]
         rw [if_pos (by decide), run_equalIn_int w (d + 3) 3 .i64 .i64 x.dp y.dp Tryz.underlying3]
         cases h5 : x.dp == y.dp <;> simp
theorem eqTutop (x y : TU) (w : World) : (Op.equalIn 10000 38 (.agg (tuC x)) (.agg (tuC y))).run Tryz.prog w = .ok (eqP x y) w := eqTu x y w 9995
theorem Tryz.tuGuard : Tryz.prog.eqGuardType Tryz.prog.depth 38 = false := by kernel_rfl
theorem yields_eql_tu {ops : Array Oper} {o : Oper} {a : Act} {S : World → Prop} (X Y : Operand) (ho : o.op = .binOp .eql 38 X Y 38) (x y : TU) (hx : a.eval X = .agg (tuC x)) (hy : a.eval Y = .agg (tuC y)) (b : Bool) (hb : (eqP x y) = b) (hw : Region.wanted o (yielded ops a.tmps) = true) : YieldsIf Tryz.prog ops S o (.bool b) a := by
 refine .inl ⟨hw, fun w _ => ?_⟩
 subst hb
 obtain ⟨dst, op, type, pos, after, guard⟩ := o
 simp only at ho
 subst ho
 simp only [execOp, Sem.run_bind, Sem.run_pure, hx, hy, run_eqGuard_agg w .eql 38 _ _ _ _ Tryz.tuGuard, Result.andThen_ok, run_eql_struct, eqTutop]
theorem yields_neq_tu {ops : Array Oper} {o : Oper} {a : Act} {S : World → Prop} (X Y : Operand) (ho : o.op = .binOp .neq 38 X Y 38) (x y : TU) (hx : a.eval X = .agg (tuC x)) (hy : a.eval Y = .agg (tuC y)) (b : Bool) (hb : (!eqP x y) = b) (hw : Region.wanted o (yielded ops a.tmps) = true) : YieldsIf Tryz.prog ops S o (.bool b) a := by
 refine .inl ⟨hw, fun w _ => ?_⟩
 subst hb
 obtain ⟨dst, op, type, pos, after, guard⟩ := o
 simp only at ho
 subst ho
 simp only [execOp, Sem.run_bind, Sem.run_pure, hx, hy, run_eqGuard_agg w .neq 38 _ _ _ _ Tryz.tuGuard, Result.andThen_ok, run_neq_struct, eqTutop]
theorem wpList_neq_tu {ops : Array Oper} {rest : List Oper} {o : Oper} {a : Act} {w : World} {Q : Exit → Act → World → Prop} (X Y : Operand) (ho : o.op = .binOp .neq 38 X Y 38) (x y : TU) (hx : a.eval X = .agg (tuC x)) (hy : a.eval Y = .agg (tuC y)) (b : Bool) (hb : (!eqP x y) = b) (hw : Region.wanted o (yielded ops a.tmps) = true)
 (h : wpList Tryz.prog ops Q rest (a.put o.dst (.bool b)) w) : wpList Tryz.prog ops Q (o :: rest) a w := by
 refine wpList_step fun K hK => ?_
 rw [if_pos hw]
 have hrun : (execOp a.eval o).run Tryz.prog w = .ok (.value (.bool b)) w := by
  subst hb
  obtain ⟨dst, op, type, pos, after, guard⟩ := o
  simp only at ho
  subst ho
  simp only [execOp, Sem.run_bind, Sem.run_pure, hx, hy, run_eqGuard_agg w .neq 38 _ _ _ _ Tryz.tuGuard, Result.andThen_ok, run_neq_struct, eqTutop]
 unfold Oper.wp
 rw [hrun]
 exact hK _ _ h
def awO (c : CF) (E : List FV) (x : TU) : Option FV := if x.dV == 6 then fF E x.rev else (fQ E ⟨x.pr, x.dp⟩).bind (fun f => if eqP (ouT c f.n) x.rev then some f else none)
set_option maxHeartbeats 1600000 in
set_option maxRecDepth 100000 in
theorem awaiting_any (t M N : Nat) (c : CF) (E : List FV) (w : World) (h : TA w t M N c E) (x : TU) (hx : x.Wf) : Calls Tryz.prog 37 #[.pointer (some ⟨t, 0, none⟩), .agg (tuC x)] w fun r w' => r = .returned (ptF (awO c E x)) ∧ Below w.heap.size w w' := by
 have HXW : Hid x.Wf := hx
 have HH : Hid (TA w t M N c E) := h
 clear hx h
 obtain ⟨W, B, HSZX, HOX, HLX, HWX, hb⟩ := zBx w (tuC x) 38
 have HBX : Hid (TupAt W B x) := hb
 obtain ⟨CX, hC⟩ : ∃ C, C = tuC x := ⟨_, rfl⟩
 rw [← hC] at HWX ⊢
 clear hb hC
 have QR : Hid _ := reverse_any x W
 obtain ⟨y, hy⟩ : ∃ y, x.rev = y := ⟨_, rfl⟩
 rw [hy] at QR
 have HY : Hid (x.rev = y) := hy
 clear hy
 have HT : Hid (TA W t M N c E) := HH.out.below HLX.out
 go_enter Tryz.func37, Tryz.ntmps37
 go_upto_region 1 with fail
 rw [HOX.out, HWX.out]
 go_wp2_with (first | (refine wpList_load_tup (.tmp 3) rfl B x rfl HBX.out rfl ?_))
 refine Calls.mono QR.out ?_
 rintro e w1 ⟨rfl, b1⟩
 have H1 : Hid (TA w1 t M N c E ∧ Below w.heap.size w w1) := ⟨HT.out.below b1, bthen HLX.out b1⟩
 clear b1 QR
 obtain ⟨Y, O, -, HOY, HLY, HEY, hb⟩ := zBx w1 (tuC xz) 38
 have HNY : Hid (TupAt Y O xz) := hb
 clear hb
 go_wp2_with (first | (refine wpList_alloc_tup rfl rfl ?_; rw [HEY.out, HOY.out]) | (refine wpList_store_tup (.tmp 5) (.tmp 8) rfl rfl O xz y rfl rfl HNY.out rfl ?_))
 intro w2 h2 k2
 have H2 : Hid (TA w2 t M N c E ∧ TupAt w2 O y ∧ Below w.heap.size w w2) := by
  have b2 : Below w1.heap.size w1 w2 := HLY.out.trans (k2.below (fun q hq => by have hq' : q = O := hq; have := HOY.out; omega) HLY.out.size)
  exact ⟨H1.out.1.below b2, h2, bthen H1.out.2 b2⟩
 have c1 := h2.c1
 clear h2 k2
 have HYV : Hid (y.Wf ∧ y.sV = x.dV ∧ y.pr = x.pr ∧ y.sp = x.dp) := by rw [← HY.out]; exact ⟨HXW.out.rev, rfl, rfl, rfl⟩
 obtain ⟨b6, hb6⟩ : ∃ b, (y.sV == 6) = b := ⟨_, rfl⟩
 have HB6 : Hid ((y.sV == 6) = b6) := hb6
 cases b6 with
 | true =>
  obtain ⟨v, hv⟩ : ∃ v, ptF (fF E y) = v := ⟨_, rfl⟩
  have HV : Hid (ptF (fF E y) = v ∧ ptF (awO c E x) = v) := ⟨hv, by unfold awO; rw [← HYV.out.2.1, HB6.out, HY.out]; exact hv⟩
  clear hv
  go_upto_region 3 with fail
  clear c1 hb6
  refine MixH.start (fun A => TA A t M N c E ∧ TupAt A O y) (by kernel_rfl) ?_
  obtain ⟨wA, hwA⟩ : ∃ wA, wA = w2.drew := ⟨_, rfl⟩
  have bdr := zDr hwA
  have hS : TA wA t M N c E ∧ TupAt wA O y := ⟨H2.out.1.below bdr, H2.out.2.1.below bdr⟩
  have HA : Hid (Below w.heap.size w wA) := bthen H2.out.2.2 bdr
  rw [← hwA]
  clear hwA bdr
  refine MixH.tks [true, true, true] 4 hS (fun K hK => ?_)
  simp only [Mix.pick]
  repeat (go_big_quiet_step (fail))
  refine wpQuiet_nil (hK _ ?_)
  clear hK K
  refine MixH.tk 3 3 rfl (.map (some M)) (yields_map (.tmp 15) rfl ⟨t, 25, none⟩ (.map (some M)) rfl rfl (fun A hA => TblAt.mp hA.1.cb)) hS (fun a' ha => ?_)
  simp only [zP1, zP2, zP3, zP4] at ha
  subst ha
  refine MixH.tk 2 4 rfl (.agg (tuC y)) (yields_tup (.tmp 5) rfl O 0 y rfl rfl (fun A hA => hA.2.all)) hS (fun a' ha => ?_)
  simp only [zP1, zP2, zP3, zP4] at ha
  subst ha
  refine MixH.tk 1 5 rfl (v) (yields_look (.tmp 16) (.tmp 17) rfl t M N c E y HYV.out.1 rfl rfl v HV.out.1 rfl (fun A hA => hA.1)) hS (fun a' ha => ?_)
  simp only [zP1, zP2, zP3, zP4] at ha
  subst ha
  refine MixH.tks [false, false, false, false, false, false, true] 0 hS (fun K hK => ?_)
  simp only [Mix.pick]
  repeat (go_big_quiet_step (fail))
  refine wpQuiet_nil (hK _ ?_)
  clear hK K
  refine MixH.done (by kernel_rfl) ?_
  clear hS
  go_wp2_with fail
  go_ret
  exact ⟨by rw [HV.out.2]; rfl, HA.out⟩
 | false =>
  obtain ⟨v, hv⟩ : ∃ v, ptF (fQ E ⟨y.pr, y.sp⟩) = v := ⟨_, rfl⟩
  have HV : Hid (ptF (fQ E ⟨y.pr, y.sp⟩) = v) := hv
  have HAW : Hid (awO c E x = (fQ E ⟨y.pr, y.sp⟩).bind (fun f => if eqP (ouT c f.n) y then some f else none)) := by show _ = _; unfold awO; rw [← HYV.out.2.1, HB6.out, HY.out, HYV.out.2.2.1, HYV.out.2.2.2]; rfl
  clear hv
  go_upto_region 4 with fail
  clear c1 hb6
  go_cut [6] (fun u wx => u = v ∧ Hid (TA wx t M N c E ∧ TupAt wx O y ∧ Below w.heap.size w wx))
  case first =>
   refine MixH.start (fun A => TA A t M N c E ∧ TupAt A O y) (by kernel_rfl) ?_
   obtain ⟨wA, hwA⟩ : ∃ wA, wA = w2.drew := ⟨_, rfl⟩
   have bdr := zDr hwA
   have hS : TA wA t M N c E ∧ TupAt wA O y := ⟨H2.out.1.below bdr, H2.out.2.1.below bdr⟩
   have HA : Hid (Below w.heap.size w wA) := bthen H2.out.2.2 bdr
   rw [← hwA]
   clear hwA bdr
   refine MixH.tks [true, true, true, false, true, false, true] 6 hS (fun K hK => ?_)
   simp only [Mix.pick]
   repeat (go_big_quiet_step (fail))
   refine wpQuiet_nil (hK _ ?_)
   clear hK K
   refine MixH.tk 5 3 rfl (.map (some N)) (yields_mapq (.tmp 21) rfl ⟨t, 26, none⟩ (.map (some N)) rfl rfl (fun A hA => TblAt.mq hA.1.cb)) hS (fun a' ha => ?_)
   simp only [zP1, zP2, zP3, zP4] at ha
   subst ha
   refine MixH.tk 4 5 rfl (.int .i64 y.pr) (yields_int (.tmp 23) rfl ⟨O, 0, none⟩ (.int .i64 y.pr) rfl rfl (fun A hA => hA.2.c0)) hS (fun a' ha => ?_)
   simp only [zP1, zP2, zP3, zP4] at ha
   subst ha
   refine MixH.tk 3 7 rfl (.int .i64 y.sp) (yields_int (.tmp 25) rfl ⟨O, 35, none⟩ (.int .i64 y.sp) rfl rfl (fun A hA => hA.2.c35)) hS (fun a' ha => ?_)
   simp only [zP1, zP2, zP3, zP4] at ha
   subst ha
   refine MixH.tk 2 8 rfl (.agg (plC ⟨y.pr, y.sp⟩)) (yields_buildpl (.tmp 24) (.tmp 26) rfl y.pr y.sp rfl rfl rfl) hS (fun a' ha => ?_)
   simp only [zP1, zP2, zP3, zP4] at ha
   subst ha
   refine MixH.tk 1 9 rfl (v) (yields_lookq (.tmp 22) (.tmp 27) rfl t M N c E ⟨y.pr, y.sp⟩ ⟨HYV.out.1.pr, HYV.out.1.sp⟩ rfl rfl v HV.out rfl (fun A hA => hA.1)) hS (fun a' ha => ?_)
   simp only [zP1, zP2, zP3, zP4] at ha
   subst ha
   refine MixH.tks [false, false, false, false, false, false, false, false, false, false, true] 0 hS (fun K hK => ?_)
   simp only [Mix.pick]
   repeat (go_big_quiet_step (fail))
   refine wpQuiet_nil (hK _ ?_)
   clear hK K
   refine MixH.done (by kernel_rfl) ?_
   have HE : Hid (TA wA t M N c E ∧ TupAt wA O y ∧ Below w.heap.size w wA) := ⟨hS.1, hS.2, HA.out⟩
   clear hS
   go_wp2
   go_meet
   exact ⟨rfl, HE⟩
  case rest =>
   obtain ⟨rfl, H3⟩ := hcut
   clear H2
   cases hf : fQ E ⟨y.pr, y.sp⟩ with
   | none =>
    rw [hf] at HV HAW
    have hv := HV.out
    simp only [ptF] at hv
    subst hv
    clear hf
    go_upto_region 5 with fail
    refine MixH.start (fun A => TA A t M N c E ∧ TupAt A O y) (by kernel_rfl) ?_
    obtain ⟨wA, hwA⟩ : ∃ wA, wA = wc.drew := ⟨_, rfl⟩
    have bdr := zDr hwA
    have hS : TA wA t M N c E ∧ TupAt wA O y := ⟨H3.out.1.below bdr, H3.out.2.1.below bdr⟩
    have HA : Hid (Below w.heap.size w wA) := bthen H3.out.2.2 bdr
    rw [← hwA]
    clear hwA bdr
    refine MixH.tks [true, true, true, true, true] 4 hS (fun K hK => ?_)
    simp only [Mix.pick]
    repeat (go_big_quiet_step (fail))
    refine wpQuiet_nil (hK _ ?_)
    clear hK K
    refine MixH.tk 3 5 rfl (undef) (.inr ⟨rfl, rfl⟩) hS (fun a' ha => ?_)
    simp only [zP1, zP2, zP3, zP4] at ha
    subst ha
    refine MixH.tk 2 6 rfl (undef) (.inr ⟨rfl, rfl⟩) hS (fun a' ha => ?_)
    simp only [zP1, zP2, zP3, zP4] at ha
    subst ha
    refine MixH.tks [false, false, false, false, false, false, false, true, true] 0 hS (fun K hK => ?_)
    simp only [Mix.pick]
    repeat (go_big_quiet_step (fail))
    refine wpQuiet_nil (hK _ ?_)
    clear hK K
    refine MixH.done (by kernel_rfl) ?_
    clear hS
    go_wp2_with fail
    go_ret
    exact ⟨by rw [HAW.out]; rfl, HA.out⟩
   | some f =>
    rw [hf] at HV HAW
    have hv := HV.out
    simp only [ptF] at hv
    subst hv
    have HFM : Hid (f ∈ E) := (fQ_some hf).1
    clear hf
    obtain ⟨be, hbe⟩ : ∃ b, eqP (ouT c f.n) y = b := ⟨_, rfl⟩
    have HBE : Hid (eqP (ouT c f.n) y = be) := hbe
    have HNE : Hid ((!eqP (ouT c f.n) y) = !be) := by show _ = _; rw [hbe]
    clear hbe
    go_upto_region 5 with fail
    refine MixH.start (fun A => TA A t M N c E ∧ TupAt A O y) (by kernel_rfl) ?_
    obtain ⟨wA, hwA⟩ : ∃ wA, wA = wc.drew := ⟨_, rfl⟩
    have bdr := zDr hwA
    have hS : TA wA t M N c E ∧ TupAt wA O y := ⟨H3.out.1.below bdr, H3.out.2.1.below bdr⟩
    have HA : Hid (Below w.heap.size w wA) := bthen H3.out.2.2 bdr
    have QO : Hid _ := outward_any t M N c f.P f.n wA hS.1.cb (hS.1.en f HFM.out)
    rw [← hwA]
    clear hwA bdr
    refine MixH.tks [true, true, true, true, true] 4 hS (fun K hK => ?_)
    simp only [Mix.pick]
    repeat (go_big_quiet_step (fail))
    refine wpQuiet_nil (hK _ ?_)
    clear hK K
    refine MixH.tk 3 6 rfl (.agg (tuC y)) (yields_tup (.tmp 5) rfl O 0 y rfl rfl (fun A hA => hA.2.all)) hS (fun a' ha => ?_)
    simp only [zP1, zP2, zP3, zP4] at ha
    subst ha
    refine MixH.one [false, false, false, false, false, true] 2 5 _ rfl rfl (by kernel_rfl) (by kernel_rfl) (fun K hK => ?_)
    simp only [Mix.pick]
    go_wp2_with fail
    refine Calls.mono QO.out ?_
    rintro e1 w3 ⟨rfl, b3⟩
    have H4 : Hid (Below w.heap.size w w3) := bthen HA.out b3
    have hS3 : TA w3 t M N c E ∧ TupAt w3 O y := ⟨hS.1.below b3, hS.2.below b3⟩
    clear hS b3 QO
    have hS := hS3
    clear hS3
    go_wp2_with fail
    refine ⟨rfl, hK _ _ hS ?_⟩
    clear hK K
    refine MixH.tk 1 7 rfl (.bool (!be)) (yields_neq_tu (.tmp 34) (.tmp 35) rfl (ouT c f.n) y rfl rfl (!be) HNE.out rfl) hS (fun a' ha => ?_)
    simp only [zP1, zP2, zP3, zP4] at ha
    subst ha
    refine MixH.tks [false, false, false, false, false, false, false, false, true] 0 hS (fun K hK => ?_)
    simp only [Mix.pick]
    repeat (go_big_quiet_step (fail))
    refine wpQuiet_nil (hK _ ?_)
    clear hK K
    refine MixH.done (by kernel_rfl) ?_
    clear hS
    cases be with
    | false =>
     go_wp2_with fail
     go_ret
     exact ⟨by rw [HAW.out]; simp only [Option.bind_some]; rw [HBE.out]; rfl, H4.out⟩
    | true =>
     go_wp2_with fail
     go_ret
     exact ⟨by rw [HAW.out]; simp only [Option.bind_some]; rw [HBE.out]; rfl, H4.out⟩
end Go.Proofs.YtclpeepnngegaaaGreatDoor
