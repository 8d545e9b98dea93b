/-
  RFg RFh: lemmas of the proof of FlowPlays, and walks through the functions that it calls.
-/
import Derived.Test.YtclpeepnngegaaaGreatDoorP00
import Derived.Test.YtclpeepnngegaaaGreatDoorP28
namespace Go.Proofs.YtclpeepnngegaaaGreatDoor
open Go.RowKit Go.Maps
def rwC (c : CF) (L : List FN) (f : FN) : List FN := if f.st = 8 then wo L f.x else ins (wo L f.x) { f with le := tkN c f.x.pr f.st }
theorem fl_cap {w : World} {base : Nat} {a : Option Addr} {n c : Nat} {L : List FN} (h : FL w base (.slice a n c) L) : L.length ≤ c := by
 rcases h.2 with ⟨hv, h0⟩ | ⟨g, cap, cur, hv, hb, hg, hnc, _⟩
 · omega
 · simp only [Value.slice.injEq] at hv
   obtain ⟨_, _, rfl⟩ := hv
   exact hnc
theorem fl_len {w : World} {base : Nat} {a : Option Addr} {n c : Nat} {L : List FN} (h : FL w base (.slice a n c) L) : L.length = n := by
 obtain ⟨_, _, hv⟩ := h.form
 simp only [Value.slice.injEq] at hv
 exact hv.2.1.symm
theorem FL.rng {w : World} {base g n c : Nat} {L : List FN} (h : FL w base (.slice (some ⟨g, 0, none⟩) n c) L) {i : Nat} {f : FN} (hf : L[i]? = some f) : w.rangeAt g (i * 40) (flC f).toList := by
 obtain ⟨g', c', hv, _, _, hr⟩ := h.at i f hf
 simp only [Value.slice.injEq, Option.some.injEq, Addr.mk.injEq, and_true] at hv
 rw [hv.1]
 exact hr
theorem take_next {KL : List FN} {p : FN → Bool} {i : Nat} {g : FN} (h : ∀ x ∈ KL.take i, p x = true) (hg : KL[i]? = some g) (hp : p g = true) : ∀ x ∈ KL.take (i + 1), p x = true := fun x hx => by
 rw [List.take_add_one, hg, List.mem_append] at hx
 rcases hx with hx | hx
 · exact h x hx
 · simp only [Option.toList_some, List.mem_singleton] at hx
   subst hx
   exact hp
set_option maxHeartbeats 1600000 in
set_option maxRecDepth 100000 in
theorem withR_any (base : Nat) (c : CF) (a : Option Addr) (n m : Nat) (L : List FN) (f : FN) (w : World) (h : FL w base (.slice a n m) L) (hn : L.length = n) (hL : n ≤ 4200) (hw : f.x.Wf ∧ ∀ g ∈ L, g.x.Wf) : Calls Tryz.prog 34 #[.agg (rvC c a n m), .agg (flC f)] w fun r w' => ∃ a' n' m', r = .returned (.agg (rvC c a' n' m')) ∧ FL w' w.heap.size (.slice a' n' m') (rwC c L f) ∧ (rwC c L f).length = n' ∧ Below w.heap.size w w' := by
 have HH : Hid (FL w base (.slice a n m) L ∧ L.length = n ∧ n ≤ 4200 ∧ f.x.Wf ∧ ∀ g ∈ L, g.x.Wf) := ⟨h, hn, hL, hw⟩
 clear h hn hL hw
 obtain ⟨Wb, B, HSZX, HOX, HLX, HWX, hb⟩ := zBx w (rvC c a n m) 36
 have HBX : Hid (RvtAt Wb B c a n m) := hb
 obtain ⟨CX, hC⟩ : ∃ C, C = rvC c a n m := ⟨_, rfl⟩
 rw [← hC] at HWX ⊢
 clear hb hC
 obtain ⟨Wd, D, HSZZ, HOZ, HLZ, HWZ, hb⟩ := zBx Wb (flC f) 72
 have HBZ : Hid (FloAt Wd D f) := hb
 obtain ⟨CZ, hC⟩ : ∃ C, C = flC f := ⟨_, rfl⟩
 rw [← hC] at HWZ ⊢
 clear hb hC
 obtain ⟨Y, O, -, HOY, HLY, HEY, hb⟩ := zBx Wd (rvC cz none 0 0) 36
 have HNY : Hid (RvtAt Y O cz none 0 0) := hb
 clear hb
 obtain ⟨ys, hys⟩ : ∃ k, Y.heap.size = k := ⟨_, rfl⟩
 have HNUM : Hid (w.heap.size = B ∧ B < D ∧ D < O ∧ O < ys) := by
  have h1 := HOX.out; have h2 := HSZX.out; have h3 := HOZ.out; have h4 := HSZZ.out; have h5 := HOY.out; have h6 := HNY.out.lt
  rw [hys] at h6
  exact ⟨by omega, by omega, by omega, by omega⟩
 have H0 : Hid (RvtAt Y B c a n m ∧ FloAt Y D f ∧ RvtAt Y O cz none 0 0 ∧ FL Y base (.slice a n m) L ∧ Below w.heap.size w Y) := by
  have b2 := bthen (bthen HLX.out HLZ.out) HLY.out
  exact ⟨(HBX.out.below HLZ.out).below HLY.out, HBZ.out.below HLY.out, HNY.out, HH.out.1.below b2, b2⟩
 have QW : Hid _ := withoutR_any base a n m L f.x Y H0.out.2.2.2.1 HH.out.2.1 HH.out.2.2.1
 have c25 : Y.cell? ⟨B, 25, none⟩ = some (.slice a n m) := H0.out.1.cell 25
 go_enter Tryz.func34, Tryz.ntmps34
 go_upto_region 1 with (first | (rw [HOX.out, HWX.out]) | (rw [HOZ.out, HWZ.out]) | (refine wpList_alloc_rvt rfl rfl ?_; rw [HEY.out, HOY.out]))
 go_wp2_with (refine wpList_mid_tup (.tmp 10) rfl D 0 f.x rfl H0.out.2.1.tup rfl ?_)
 refine Calls.mono QW.out ?_
 rintro r1 w1 ⟨a1, m1, rfl, l1, b1⟩
 obtain ⟨KL, hK⟩ : ∃ KL, wo L f.x = KL := ⟨_, rfl⟩
 rw [hK, hys] at l1
 rw [hK]
 have HKW : Hid (wo L f.x = KL) := hK
 have HKL : Hid (KL.length ≤ 4200) := by
  show _ ≤ _
  have h1 := wo_len L f.x
  have h2 := HH.out
  rw [hK] at h1
  omega
 have HKX : Hid (∀ g ∈ KL, g.x.Wf) := fun g hg => HH.out.2.2.2.2 g (by rw [← hK] at hg; exact (List.mem_filter.1 hg).1)
 obtain ⟨n1, hn1⟩ : ∃ k, KL.length = k := ⟨_, rfl⟩
 rw [hn1] at l1
 rw [hn1]
 have HN1 : Hid (KL.length = n1) := hn1
 have HS1 : Hid (RvtAt w1 B c a n m ∧ FloAt w1 D f ∧ RvtAt w1 O cz none 0 0 ∧ FL w1 ys (.slice a1 n1 m1) KL ∧ Below w.heap.size w w1) := ⟨H0.out.1.below b1, H0.out.2.1.below b1, H0.out.2.2.1.below b1, l1, bthen H0.out.2.2.2.2 b1⟩
 have HY1 : Hid (ys ≤ w1.heap.size) := by have h1 := b1.size; rw [hys] at h1; exact h1
 clear l1 hK hn1 b1 c25 QW hys
 obtain ⟨st, hst⟩ : ∃ v, f.st = v := ⟨_, rfl⟩
 have c38 : w1.cell? ⟨D, 38, none⟩ = some (.int .i64 st) := by rw [← hst]; exact HS1.out.2.1.cell 38
 by_cases h8 : st = 8
 · have q8 : (st == 8) = true := by simpa using h8
   have HRL : Hid (KL = rwC c L f) := by
    show _ = _
    unfold rwC
    rw [if_pos (by omega), HKW.out]
   have HQ : Hid (RvtAt w1 B c a n m ∧ RvtAt w1 O cz none 0 0 ∧ FL w1 ys (.slice a1 n1 m1) (KL) ∧ Below w.heap.size w w1) := ⟨HS1.out.1, HS1.out.2.2.1, HS1.out.2.2.2.1, HS1.out.2.2.2.2⟩
   clear hst h8
   go_upto_region 3 with fail
   have c25 : w1.cell? ⟨B, 25, none⟩ = some (.slice a n m) := HQ.out.1.cell 25
   have f25 : w1.frozen? ⟨B, 25, none⟩ = false := HQ.out.1.fz 25
   go_upto_region 4 with fail
   obtain ⟨w6, hw6⟩ : ∃ y, w1.setCell ⟨B, 25, none⟩ (.slice a1 n1 m1) = y := ⟨_, rfl⟩
   have HT : Hid (RvtAt w6 B c a1 n1 m1 ∧ RvtAt w6 O cz none 0 0 ∧ FL w6 ys (.slice a1 n1 m1) (KL) ∧ Below w.heap.size w w6) := by
    obtain ⟨q1, q2, q3, q4⟩ := HNUM.out
    have h1 := RvtAt.set HQ.out.1 25 (.slice a1 n1 m1) (set_fl _ _ _ _ _ _ _)
    have k6 := (Ch.refl (fun q => q = B) w1).set ⟨B, 25, none⟩ (.slice a1 n1 m1) rfl
    rw [hw6] at h1 k6
    exact ⟨h1, HQ.out.2.1.ch k6 (by omega), HQ.out.2.2.1.ch k6 (fun q hq e => by have e' : q = B := e; have := fl_base HQ.out.2.2.1 hq; omega), HQ.out.2.2.2.trans (k6.below (fun q hq => by have e' : q = B := hq; omega) HQ.out.2.2.2.size)⟩
   rw [hw6]
   clear hw6 c25 f25
   go_wp2_with (first | (refine wpList_load_rvt (.tmp 2) rfl B c a1 n1 m1 rfl HT.out.1 rfl ?_) | (refine wpList_store_rvt (.tmp 4) (.tmp 18) rfl rfl O cz none 0 0 c a1 n1 m1 rfl rfl HT.out.2.1 rfl ?_))
   intro w7 h7 k7
   have b7 : Below w.heap.size w w7 := HT.out.2.2.2.trans (k7.below (fun q hq => by have e' : q = O := hq; have := HNUM.out; omega) HT.out.2.2.2.size)
   have l7 : FL w7 w.heap.size (.slice a1 n1 m1) (KL) := (HT.out.2.2.1.ch k7 (fun q hq e => by have e' : q = O := e; have := fl_base HT.out.2.2.1 hq; have := HNUM.out; omega)).mono (by have := HNUM.out; omega)
   go_wp2_with fail
   refine bodyPost_ret (results_rvt rfl _ _ O _ _ _ _ rfl h7) rfl ?_
   have hvn := HN1.out
   rw [HRL.out] at l7 hvn
   exact ⟨a1, n1, m1, rfl, l7, hvn, b7⟩
 · have q8 : (st == 8) = false := by simpa using h8
   have HST : Hid (f.st = st ∧ ¬ (f.st = 8)) := ⟨hst, by omega⟩
   obtain ⟨tk, htk⟩ : ∃ v, tkN c f.x.pr f.st = v := ⟨_, rfl⟩
   have qt := timeR_any c a n m f w1
   rw [htk] at qt
   have QT : Hid _ := qt
   clear qt h8
   go_upto_region 5 with fail
   go_wp2_with (first | (refine wpList_load_rvt (.tmp 2) rfl B c a n m rfl HS1.out.1 rfl ?_) | (refine wpList_load_flo (.tmp 3) rfl D f rfl HS1.out.2.1 rfl ?_))
   refine Calls.mono QT.out ?_
   rintro r2 w2 ⟨rfl, b2⟩
   have HS2 : Hid (RvtAt w2 B c a n m ∧ FloAt w2 D f ∧ RvtAt w2 O cz none 0 0 ∧ FL w2 ys (.slice a1 n1 m1) KL ∧ Below w.heap.size w w2) := ⟨HS1.out.1.below b2, HS1.out.2.1.below b2, HS1.out.2.2.1.below b2, HS1.out.2.2.2.1.below b2, bthen HS1.out.2.2.2.2 b2⟩
   have HY2 : Hid (ys ≤ w2.heap.size) := Nat.le_trans HY1.out b2.size
   have c39 := HS2.out.2.1.c39
   have f39 := HS2.out.2.1.fz 39
   clear QT b2 c38 hst
   go_upto_region 6 with fail
   obtain ⟨f1, hf1⟩ : ∃ g : FN, g = { f with le := tk } := ⟨_, rfl⟩
   have HF1 : Hid (f1 = { f with le := tk }) := hf1
   have HF1X : Hid (f1.x = f.x) := by show _ = _; rw [hf1]
   obtain ⟨w3, hw3⟩ : ∃ y, w2.setCell ⟨D, 39, none⟩ (.int .i64 tk) = y := ⟨_, rfl⟩
   have HS3 : Hid (RvtAt w3 B c a n m ∧ FloAt w3 D f1 ∧ RvtAt w3 O cz none 0 0 ∧ FL w3 ys (.slice a1 n1 m1) KL ∧ Below w.heap.size w w3) := by
    obtain ⟨q1, q2, q3, q4⟩ := HNUM.out
    have h1 := FloAt.set HS2.out.2.1 39 (.int .i64 tk) (set_le _ _)
    rw [← hf1] at h1
    have k3 := (Ch.refl (fun q => q = D) w2).set ⟨D, 39, none⟩ (.int .i64 tk) rfl
    rw [hw3] at h1 k3
    exact ⟨HS2.out.1.ch k3 (by omega), h1, HS2.out.2.2.1.ch k3 (by omega), HS2.out.2.2.2.1.ch k3 (fun q hq e => by have e' : q = D := e; have := fl_base HS2.out.2.2.2.1 hq; omega), HS2.out.2.2.2.2.trans (k3.below (fun q hq => by have e' : q = D := hq; omega) HS2.out.2.2.2.2.size)⟩
   have HY3 : Hid (ys ≤ w3.heap.size) := by rw [← hw3]; show _ ≤ _; rw [World.size_setCell]; exact HY2.out
   rw [hw3]
   have HTK : Hid (tkN c f.x.pr f.st = tk) := htk
   clear hw3 hf1 c39 f39 htk
   have HST : Hid (tkN c f.x.pr f.st = tk ∧ ¬ (f.st = 8)) := ⟨HTK.out, HST.out.2⟩
   have H0L : Hid ((∀ g ∈ KL.take 0, decide (ordV g f1 < 0) = true)) := fun g hg => by simp at hg
   have HYS : Hid (ys ≤ w3.heap.size ∧ Below w.heap.size w w3) := ⟨HY3.out, HS3.out.2.2.2.2⟩
   go_wp2_with fail
   go_loopw [7] (fun ix wr => ∃ i : Nat, ix = .int .i64 (i : Nat) ∧ i ≤ n1 ∧ Hid ((RvtAt wr B c a n m ∧ FloAt wr D f1 ∧ RvtAt wr O cz none 0 0 ∧ FL wr ys (.slice a1 n1 m1) KL ∧ Below w.heap.size w wr) ∧ ys ≤ wr.heap.size ∧ ∀ g ∈ KL.take i, decide (ordV g f1 < 0) = true)) (fun ix _ => n1 - (intOf ix).toNat)
   case atStart => exact ⟨0, rfl, Nat.zero_le _, HS3.out, HYS.out.1, H0L.out⟩
   case round =>
    clear HS3 H0L
    obtain ⟨i, rfl, hi, HI⟩ := hrel
    by_cases hin : i < n1
    · have p1 : decide ((i : Int) < (n1 : Int)) = true := decide_eq_true (by omega)
      have p2 : decide (i < n1) = true := decide_eq_true hin
      have i0 : (0 : Int) ≤ (i : Int) := by omega
      have i1 : (i : Int) < (n1 : Int) := by omega
      have i2 : ((i : Int)).toNat = i := by omega
      have HNB : Hid (n1 ≤ 4200) := by have := HKL.out; have := HN1.out; show _ ≤ _; omega
      have wi : IntKind.i64.wrap ((i : Int) + 1) = (i : Int) + 1 := i64_k _ (by omega) (by have := HNB.out; omega)
      obtain ⟨fi, hfi⟩ : ∃ f, KL[i]? = some f := ⟨_, List.getElem?_eq_getElem (by rw [HN1.out]; exact hin)⟩
      obtain ⟨g, c', hv, _, _, hr⟩ := HI.out.1.2.2.2.1.at i fi hfi
      simp only [Value.slice.injEq] at hv
      obtain ⟨rfl, x1, x2⟩ := hv
      clear x1 x2
      have HR : Hid (wr.rangeAt g (i * 40) (flC fi).toList) := hr
      have HIN : Hid (i < n1 ∧ KL[i]? = some fi) := ⟨hin, hfi⟩
      obtain ⟨b, hb⟩ : ∃ b, decide (ordT fi.x f1.x < 0) = b := ⟨_, rfl⟩
      have HBB : Hid (decide (ordT fi.x f1.x < 0) = b) := hb
      clear hfi hr hin hi hb
      go_upto_region 8 with fail
      refine MixH.start (fun A => A.rangeAt g (i * 40) (flC fi).toList ∧ FloAt A D f1) (by kernel_rfl) ?_
      obtain ⟨wA, hwA⟩ : ∃ wA, wA = wr.drew := ⟨_, rfl⟩
      have bdr := zDr hwA
      have HA : Hid ((RvtAt wA B c a n m ∧ FloAt wA D f1 ∧ RvtAt wA O cz none 0 0 ∧ FL wA ys (.slice (some ⟨g, 0, none⟩) n1 m1) KL ∧ Below w.heap.size w wA) ∧ ys ≤ wA.heap.size) := ⟨⟨HI.out.1.1.below bdr, HI.out.1.2.1.below bdr, HI.out.1.2.2.1.below bdr, HI.out.1.2.2.2.1.below bdr, bthen HI.out.1.2.2.2.2 bdr⟩, Nat.le_trans HI.out.2.1 bdr.size⟩
      have hS : wA.rangeAt g (i * 40) (flC fi).toList ∧ FloAt wA D f1 := ⟨rng_drew hwA HR.out, HA.out.1.2.1⟩
      have qa := aheadR_any fi.x f1.x wA (HKX.out fi (List.mem_of_getElem? HIN.out.2)) (by rw [HF1X.out]; exact HH.out.2.2.2.1)
      rw [HBB.out] at qa
      have QA : Hid _ := qa
      rw [← hwA]
      clear hwA bdr qa
      refine MixH.tks [true, true, true, true, true, true, true, true, true, false, true] 4 hS (fun K hK => ?_)
      simp only [Mix.pick]
      repeat (go_big_quiet_step (fail))
      refine wpQuiet_nil (hK _ ?_)
      clear hK K
      refine MixH.tk 3 9 rfl (.agg (tuC fi.x)) (yields_tup (.tmp 31) rfl g (i * 40) fi.x rfl rfl (fun A hA => flrow_tup hA.1)) hS (fun a' ha => ?_)
      simp only [zP1, zP2, zP3, zP4] at ha
      subst ha
      refine MixH.tk 2 11 rfl (.agg (tuC f1.x)) (yields_tup (.tmp 33) rfl D 0 f1.x rfl rfl (fun A hA => hA.2.tup)) hS (fun a' ha => ?_)
      simp only [zP1, zP2, zP3, zP4] at ha
      subst ha
      refine MixH.one [false, false, false, false, false, false, false, false, false, false, false, false, true] 1 12 _ rfl rfl (by kernel_rfl) (by kernel_rfl) (fun K hK => ?_)
      simp only [Mix.pick]
      go_wp2_with fail
      refine Calls.mono QA.out ?_
      rintro e1 wE ⟨rfl, b4⟩
      have HD : Hid ((RvtAt wE B c a n m ∧ FloAt wE D f1 ∧ RvtAt wE O cz none 0 0 ∧ FL wE ys (.slice (some ⟨g, 0, none⟩) n1 m1) KL ∧ Below w.heap.size w wE) ∧ ys ≤ wE.heap.size) := ⟨⟨HA.out.1.1.below b4, HA.out.1.2.1.below b4, HA.out.1.2.2.1.below b4, HA.out.1.2.2.2.1.below b4, bthen HA.out.1.2.2.2.2 b4⟩, Nat.le_trans HA.out.2 b4.size⟩
      have hS4 : wE.rangeAt g (i * 40) (flC fi).toList ∧ FloAt wE D f1 := ⟨HD.out.1.2.2.2.1.rng HIN.out.2, hS.2.below b4⟩
      clear hS b4 QA
      have hS := hS4
      clear hS4
      go_wp2_with fail
      refine ⟨rfl, hK _ _ hS ?_⟩
      clear hK K
      refine MixH.tks [false, false, false, false, false, false, false, false, false, false, false, false, false, true] 0 hS (fun K hK => ?_)
      simp only [Mix.pick]
      repeat (go_big_quiet_step (fail))
      refine wpQuiet_nil (hK _ ?_)
      clear hK K
      refine MixH.done (by kernel_rfl) ?_
      clear hS p1 p2
      cases b with
      | true =>
       go_wp2_with fail
       go_roundw
       case rel => exact ⟨i + 1, by go_num, by have := HIN.out.1; omega, HD.out.1, HD.out.2, take_next HI.out.2.2 HIN.out.2 HBB.out⟩
       case measure => have := HIN.out.1; simp [intOf]; omega
      | false =>
       have HX : Hid ((RvtAt wE B c a n m ∧ FloAt wE D f1 ∧ RvtAt wE O cz none 0 0 ∧ FL wE ys (.slice (some ⟨g, 0, none⟩) n1 m1) KL ∧ Below w.heap.size w wE) ∧ i ≤ n1 ∧ KL.takeWhile (fun g => decide (ordV g f1 < 0)) = KL.take i ∧ KL.dropWhile (fun g => decide (ordV g f1 < 0)) = KL.drop i) := ⟨HD.out.1, Nat.le_of_lt HIN.out.1, tw_stop _ KL i HI.out.2.2 (.inr ⟨fi, HIN.out.2, HBB.out⟩)⟩
       have HYW : Hid (ys ≤ wE.heap.size) := HD.out.2
       clear HD HA HR HI
       have HB0 : Hid (FL wE wE.heap.size (.slice none 0 0) []) := FL.nil _ _
       have HLN : Hid (KL.length = n1 ∧ KL.length ≤ m1 ∧ KL.length ≤ 4200) := ⟨fl_len HX.out.1.2.2.2.1, fl_cap HX.out.1.2.2.2.1, HKL.out⟩
       obtain ⟨la, hla, hwa⟩ := FL.lo HX.out.1.2.2.2.1 (k := i) (by have := HLN.out; have := HX.out.2.1; omega)
       have HWA : Hid (sliced (some ⟨g, 0, none⟩) 0 i m1 40 = .slice la i m1 ∧ WinF wE la i m1 (KL.take i)) := ⟨hla, hwa⟩
       clear hla hwa
       go_upto_region 11 with (first | (refine wpList_slH (.tmp 40) (.tmp 41) rfl rfl (some ⟨g, 0, none⟩) n1 m1 i (i : Int) (.slice la i m1) HWA.out.1 rfl rfl rfl (by have := HLN.out; have := HX.out.2.1; omega) ?_) | (at_builtin; refine wpList_appWf rfl (.tmp 39) (.tmp 42) rfl wE.heap.size (.slice none 0 0) [] rfl HB0.out la i m1 (KL.take i) rfl HWA.out.2 (by simp) (by rw [List.length_take]; have := HLN.out; omega) (Nat.le_refl _) ?_; intro v2 w2 g2 b2 _))
       have be2 : Below wE.heap.size wE w2 := (Ch.ofGrown b2).below (fun q hq => fl_base HB0.out hq) (Nat.le_refl _)
       have HS2 : Hid (FloAt w2 D f1 ∧ FL w2 wE.heap.size v2 (KL.take i) ∧ Below wE.heap.size wE w2) := ⟨HX.out.1.2.1.below be2, by rw [List.nil_append] at g2; exact g2, be2⟩
       clear g2 b2 be2
       obtain ⟨w3, OG, -, HOG, HLG, HEG, hb⟩ := zBx w2 (flC f1) 72
       have HNG : Hid (FloAt w3 OG f1) := hb
       clear hb
       have H3 : Hid (FL w3 wE.heap.size v2 (KL.take i) ∧ Below wE.heap.size wE w3) := ⟨HS2.out.2.1.below HLG.out, bthen HS2.out.2.2 HLG.out⟩
       go_upto_region 12 with (first | (refine wpList_load_flo (.tmp 3) rfl D f1 rfl HS2.out.1 rfl ?_) | (refine wpList_bs1f (.tmp 45) rfl f1 rfl rfl ?_; rw [HEG.out, HOG.out]) | (at_builtin; refine wpList_app1f rfl (.tmp 44) (.tmp 46) rfl wE.heap.size v2 (KL.take i) rfl H3.out.1 OG f1 rfl HNG.out (by rw [List.length_take]; have := HLN.out; omega) H3.out.2.size ?_; intro v4 w4 g4 b4 _))
       have be4 : Below wE.heap.size wE w4 := H3.out.2.trans ((Ch.ofGrown b4).below (fun q hq => fl_base H3.out.1 hq) H3.out.2.size)
       have HS4 : Hid (FL w4 wE.heap.size v4 (KL.take i ++ [f1]) ∧ Below wE.heap.size wE w4) := ⟨g4, be4⟩
       obtain ⟨lb, hlb, hwb⟩ := FL.hi (HX.out.1.2.2.2.1.below be4) (k := i) HLN.out.1 HX.out.2.1
       have HWB : Hid (sliced (some ⟨g, 0, none⟩) i n1 m1 40 = .slice lb (n1 - i) (m1 - i) ∧ WinF w4 lb (n1 - i) (m1 - i) (KL.drop i)) := ⟨hlb, hwb⟩
       clear g4 b4 be4 hlb hwb
       go_wp2_with (first | (refine wpList_slL (.tmp 49) (.tmp 50) rfl rfl (some ⟨g, 0, none⟩) n1 m1 i (i : Int) (.slice lb (n1 - i) (m1 - i)) HWB.out.1 rfl rfl rfl HX.out.2.1 ?_) | (at_builtin; refine wpList_appWf rfl (.tmp 48) (.tmp 51) rfl wE.heap.size v4 (KL.take i ++ [f1]) rfl HS4.out.1 lb (n1 - i) (m1 - i) (KL.drop i) rfl HWB.out.2 (by rw [List.length_append, List.length_take]; have := HLN.out; simp only [List.length_singleton]; omega) (by rw [List.length_drop]; have := HLN.out; omega) HS4.out.2.size ?_))
       intro v5 w5 g5 b5 _
       have be5 : Below wE.heap.size wE w5 := HS4.out.2.trans ((Ch.ofGrown b5).below (fun q hq => fl_base HS4.out.1 hq) HS4.out.2.size)
       obtain ⟨va, vc, hv⟩ := g5.form
       subst hv
       have HRL : Hid ((KL.take i ++ f1 :: KL.drop i) = rwC c L f) := by
        show _ = _
        unfold rwC ins
        rw [if_neg HST.out.2, HST.out.1, HKW.out]
        have e1 : { f with le := tk } = f1 := HF1.out.symm
        rw [e1, HX.out.2.2.1, HX.out.2.2.2]
       have HQ : Hid (RvtAt w5 B c a n m ∧ RvtAt w5 O cz none 0 0 ∧ FL w5 ys (.slice va (KL.take i ++ f1 :: KL.drop i).length vc) (KL.take i ++ f1 :: KL.drop i) ∧ Below w.heap.size w w5) := ⟨HX.out.1.1.below be5, HX.out.1.2.2.1.below be5, g5.mono HYW.out, bthen HX.out.1.2.2.2.2 be5⟩
       clear g5 b5 be5
       obtain ⟨vn, hvn⟩ : ∃ k, (KL.take i ++ f1 :: KL.drop i).length = k := ⟨_, rfl⟩
       rw [hvn] at HQ ⊢
       have c25 : w5.cell? ⟨B, 25, none⟩ = some (.slice a n m) := HQ.out.1.cell 25
       have f25 : w5.frozen? ⟨B, 25, none⟩ = false := HQ.out.1.fz 25
       go_upto_region 13 with fail
       obtain ⟨w6, hw6⟩ : ∃ y, w5.setCell ⟨B, 25, none⟩ (.slice va vn vc) = y := ⟨_, rfl⟩
       have HT : Hid (RvtAt w6 B c va vn vc ∧ RvtAt w6 O cz none 0 0 ∧ FL w6 ys (.slice va vn vc) (KL.take i ++ f1 :: KL.drop i) ∧ Below w.heap.size w w6) := by
        obtain ⟨q1, q2, q3, q4⟩ := HNUM.out
        have h1 := RvtAt.set HQ.out.1 25 (.slice va vn vc) (set_fl _ _ _ _ _ _ _)
        have k6 := (Ch.refl (fun q => q = B) w5).set ⟨B, 25, none⟩ (.slice va vn vc) rfl
        rw [hw6] at h1 k6
        exact ⟨h1, HQ.out.2.1.ch k6 (by omega), HQ.out.2.2.1.ch k6 (fun q hq e => by have e' : q = B := e; have := fl_base HQ.out.2.2.1 hq; omega), HQ.out.2.2.2.trans (k6.below (fun q hq => by have e' : q = B := hq; omega) HQ.out.2.2.2.size)⟩
       rw [hw6]
       clear hw6 c25 f25
       go_wp2_with (first | (refine wpList_load_rvt (.tmp 2) rfl B c va vn vc rfl HT.out.1 rfl ?_) | (refine wpList_store_rvt (.tmp 4) (.tmp 54) rfl rfl O cz none 0 0 c va vn vc rfl rfl HT.out.2.1 rfl ?_))
       intro w7 h7 k7
       have b7 : Below w.heap.size w w7 := HT.out.2.2.2.trans (k7.below (fun q hq => by have e' : q = O := hq; have := HNUM.out; omega) HT.out.2.2.2.size)
       have l7 : FL w7 w.heap.size (.slice va vn vc) (KL.take i ++ f1 :: KL.drop i) := (HT.out.2.2.1.ch k7 (fun q hq e => by have e' : q = O := e; have := fl_base HT.out.2.2.1 hq; have := HNUM.out; omega)).mono (by have := HNUM.out; omega)
       go_wp2_with fail
       refine bodyPost_ret (results_rvt rfl _ _ O _ _ _ _ rfl h7) rfl ?_
       rw [HRL.out] at l7 hvn
       exact ⟨va, vn, vc, rfl, l7, hvn, b7⟩
    · have p1 : decide ((i : Int) < (n1 : Int)) = false := decide_eq_false (by omega)
      have p2 : decide (i < n1) = false := decide_eq_false hin
      have i0 : (0 : Int) ≤ (i : Int) := by omega
      have i2 : ((i : Int)).toNat = i := by omega
      have hin' : i = n1 := by omega
      go_upto_region 8 with fail
      refine MixH.start (fun A => FloAt A D f1) (by kernel_rfl) ?_
      obtain ⟨wA, hwA⟩ : ∃ wA, wA = wr.drew := ⟨_, rfl⟩
      have bdr := zDr hwA
      have HX : Hid ((RvtAt wA B c a n m ∧ FloAt wA D f1 ∧ RvtAt wA O cz none 0 0 ∧ FL wA ys (.slice a1 n1 m1) KL ∧ Below w.heap.size w wA) ∧ i ≤ n1 ∧ KL.takeWhile (fun g => decide (ordV g f1 < 0)) = KL.take i ∧ KL.dropWhile (fun g => decide (ordV g f1 < 0)) = KL.drop i) := ⟨⟨HI.out.1.1.below bdr, HI.out.1.2.1.below bdr, HI.out.1.2.2.1.below bdr, HI.out.1.2.2.2.1.below bdr, bthen HI.out.1.2.2.2.2 bdr⟩, hi, tw_stop _ KL i HI.out.2.2 (.inl (by rw [HN1.out]; exact hin'))⟩
      have HYW : Hid (ys ≤ wA.heap.size) := Nat.le_trans HI.out.2.1 bdr.size
      have hS : FloAt wA D f1 := HX.out.1.2.1
      rw [← hwA]
      clear hwA bdr hin hin' hi HI
      refine MixH.tks [true, true, true, true, true, true, true, true, true, false, true] 4 hS (fun K hK => ?_)
      simp only [Mix.pick]
      repeat (go_big_quiet_step (fail))
      refine wpQuiet_nil (hK _ ?_)
      clear hK K
      refine MixH.tk 3 9 rfl (undef) (.inr ⟨rfl, rfl⟩) hS (fun a' ha => ?_)
      simp only [zP1, zP2, zP3, zP4] at ha
      subst ha
      refine MixH.tk 2 11 rfl (undef) (.inr ⟨rfl, rfl⟩) hS (fun a' ha => ?_)
      simp only [zP1, zP2, zP3, zP4] at ha
      subst ha
      refine MixH.tk 1 12 rfl (undef) (.inr ⟨rfl, rfl⟩) hS (fun a' ha => ?_)
      simp only [zP1, zP2, zP3, zP4] at ha
      subst ha
      refine MixH.tks [false, false, false, false, false, false, false, false, false, false, false, false, false, true] 0 hS (fun K hK => ?_)
      simp only [Mix.pick]
      repeat (go_big_quiet_step (fail))
      refine wpQuiet_nil (hK _ ?_)
      clear hK K
      refine MixH.done (by kernel_rfl) ?_
      clear hS p1 p2
      have HB0 : Hid (FL wA wA.heap.size (.slice none 0 0) []) := FL.nil _ _
      have HLN : Hid (KL.length = n1 ∧ KL.length ≤ m1 ∧ KL.length ≤ 4200) := ⟨fl_len HX.out.1.2.2.2.1, fl_cap HX.out.1.2.2.2.1, HKL.out⟩
      obtain ⟨la, hla, hwa⟩ := FL.lo HX.out.1.2.2.2.1 (k := i) (by have := HLN.out; have := HX.out.2.1; omega)
      have HWA : Hid (sliced a1 0 i m1 40 = .slice la i m1 ∧ WinF wA la i m1 (KL.take i)) := ⟨hla, hwa⟩
      clear hla hwa
      go_upto_region 11 with (first | (refine wpList_slH (.tmp 40) (.tmp 41) rfl rfl a1 n1 m1 i (i : Int) (.slice la i m1) HWA.out.1 rfl rfl rfl (by have := HLN.out; have := HX.out.2.1; omega) ?_) | (at_builtin; refine wpList_appWf rfl (.tmp 39) (.tmp 42) rfl wA.heap.size (.slice none 0 0) [] rfl HB0.out la i m1 (KL.take i) rfl HWA.out.2 (by simp) (by rw [List.length_take]; have := HLN.out; omega) (Nat.le_refl _) ?_; intro v2 w2 g2 b2 _))
      have be2 : Below wA.heap.size wA w2 := (Ch.ofGrown b2).below (fun q hq => fl_base HB0.out hq) (Nat.le_refl _)
      have HS2 : Hid (FloAt w2 D f1 ∧ FL w2 wA.heap.size v2 (KL.take i) ∧ Below wA.heap.size wA w2) := ⟨HX.out.1.2.1.below be2, by rw [List.nil_append] at g2; exact g2, be2⟩
      clear g2 b2 be2
      obtain ⟨w3, OG, -, HOG, HLG, HEG, hb⟩ := zBx w2 (flC f1) 72
      have HNG : Hid (FloAt w3 OG f1) := hb
      clear hb
      have H3 : Hid (FL w3 wA.heap.size v2 (KL.take i) ∧ Below wA.heap.size wA w3) := ⟨HS2.out.2.1.below HLG.out, bthen HS2.out.2.2 HLG.out⟩
      go_upto_region 12 with (first | (refine wpList_load_flo (.tmp 3) rfl D f1 rfl HS2.out.1 rfl ?_) | (refine wpList_bs1f (.tmp 45) rfl f1 rfl rfl ?_; rw [HEG.out, HOG.out]) | (at_builtin; refine wpList_app1f rfl (.tmp 44) (.tmp 46) rfl wA.heap.size v2 (KL.take i) rfl H3.out.1 OG f1 rfl HNG.out (by rw [List.length_take]; have := HLN.out; omega) H3.out.2.size ?_; intro v4 w4 g4 b4 _))
      have be4 : Below wA.heap.size wA w4 := H3.out.2.trans ((Ch.ofGrown b4).below (fun q hq => fl_base H3.out.1 hq) H3.out.2.size)
      have HS4 : Hid (FL w4 wA.heap.size v4 (KL.take i ++ [f1]) ∧ Below wA.heap.size wA w4) := ⟨g4, be4⟩
      obtain ⟨lb, hlb, hwb⟩ := FL.hi (HX.out.1.2.2.2.1.below be4) (k := i) HLN.out.1 HX.out.2.1
      have HWB : Hid (sliced a1 i n1 m1 40 = .slice lb (n1 - i) (m1 - i) ∧ WinF w4 lb (n1 - i) (m1 - i) (KL.drop i)) := ⟨hlb, hwb⟩
      clear g4 b4 be4 hlb hwb
      go_wp2_with (first | (refine wpList_slL (.tmp 49) (.tmp 50) rfl rfl a1 n1 m1 i (i : Int) (.slice lb (n1 - i) (m1 - i)) HWB.out.1 rfl rfl rfl HX.out.2.1 ?_) | (at_builtin; refine wpList_appWf rfl (.tmp 48) (.tmp 51) rfl wA.heap.size v4 (KL.take i ++ [f1]) rfl HS4.out.1 lb (n1 - i) (m1 - i) (KL.drop i) rfl HWB.out.2 (by rw [List.length_append, List.length_take]; have := HLN.out; simp only [List.length_singleton]; omega) (by rw [List.length_drop]; have := HLN.out; omega) HS4.out.2.size ?_))
      intro v5 w5 g5 b5 _
      have be5 : Below wA.heap.size wA w5 := HS4.out.2.trans ((Ch.ofGrown b5).below (fun q hq => fl_base HS4.out.1 hq) HS4.out.2.size)
      obtain ⟨va, vc, hv⟩ := g5.form
      subst hv
      have HRL : Hid ((KL.take i ++ f1 :: KL.drop i) = rwC c L f) := by
       show _ = _
       unfold rwC ins
       rw [if_neg HST.out.2, HST.out.1, HKW.out]
       have e1 : { f with le := tk } = f1 := HF1.out.symm
       rw [e1, HX.out.2.2.1, HX.out.2.2.2]
      have HQ : Hid (RvtAt w5 B c a n m ∧ RvtAt w5 O cz none 0 0 ∧ FL w5 ys (.slice va (KL.take i ++ f1 :: KL.drop i).length vc) (KL.take i ++ f1 :: KL.drop i) ∧ Below w.heap.size w w5) := ⟨HX.out.1.1.below be5, HX.out.1.2.2.1.below be5, g5.mono HYW.out, bthen HX.out.1.2.2.2.2 be5⟩
      clear g5 b5 be5
      obtain ⟨vn, hvn⟩ : ∃ k, (KL.take i ++ f1 :: KL.drop i).length = k := ⟨_, rfl⟩
      rw [hvn] at HQ ⊢
      have c25 : w5.cell? ⟨B, 25, none⟩ = some (.slice a n m) := HQ.out.1.cell 25
      have f25 : w5.frozen? ⟨B, 25, none⟩ = false := HQ.out.1.fz 25
      go_upto_region 13 with fail
      obtain ⟨w6, hw6⟩ : ∃ y, w5.setCell ⟨B, 25, none⟩ (.slice va vn vc) = y := ⟨_, rfl⟩
      have HT : Hid (RvtAt w6 B c va vn vc ∧ RvtAt w6 O cz none 0 0 ∧ FL w6 ys (.slice va vn vc) (KL.take i ++ f1 :: KL.drop i) ∧ Below w.heap.size w w6) := by
       obtain ⟨q1, q2, q3, q4⟩ := HNUM.out
       have h1 := RvtAt.set HQ.out.1 25 (.slice va vn vc) (set_fl _ _ _ _ _ _ _)
       have k6 := (Ch.refl (fun q => q = B) w5).set ⟨B, 25, none⟩ (.slice va vn vc) rfl
       rw [hw6] at h1 k6
       exact ⟨h1, HQ.out.2.1.ch k6 (by omega), HQ.out.2.2.1.ch k6 (fun q hq e => by have e' : q = B := e; have := fl_base HQ.out.2.2.1 hq; omega), HQ.out.2.2.2.trans (k6.below (fun q hq => by have e' : q = B := hq; omega) HQ.out.2.2.2.size)⟩
      rw [hw6]
      clear hw6 c25 f25
      go_wp2_with (first | (refine wpList_load_rvt (.tmp 2) rfl B c va vn vc rfl HT.out.1 rfl ?_) | (refine wpList_store_rvt (.tmp 4) (.tmp 54) rfl rfl O cz none 0 0 c va vn vc rfl rfl HT.out.2.1 rfl ?_))
      intro w7 h7 k7
      have b7 : Below w.heap.size w w7 := HT.out.2.2.2.trans (k7.below (fun q hq => by have e' : q = O := hq; have := HNUM.out; omega) HT.out.2.2.2.size)
      have l7 : FL w7 w.heap.size (.slice va vn vc) (KL.take i ++ f1 :: KL.drop i) := (HT.out.2.2.1.ch k7 (fun q hq e => by have e' : q = O := e; have := fl_base HT.out.2.2.1 hq; have := HNUM.out; omega)).mono (by have := HNUM.out; omega)
      go_wp2_with fail
      refine bodyPost_ret (results_rvt rfl _ _ O _ _ _ _ rfl h7) rfl ?_
      rw [HRL.out] at l7 hvn
      exact ⟨va, vn, vc, rfl, l7, hvn, b7⟩
end Go.Proofs.YtclpeepnngegaaaGreatDoor
namespace Go.Proofs.YtclpeepnngegaaaGreatDoor
open Go.RowKit Go.Maps
def tk1p (pr po : Int) (f : FN) : Bool := f.x.pr == pr && (f.x.sV == 4 && f.po == po)
theorem tkn2_next {L : List FN} {pr po : Int} {i : Nat} {f : FN} (h : tkn2 (L.take i) pr po = false) (hf : L[i]? = some f) (hp : tk1p pr po f = false) : tkn2 (L.take (i + 1)) pr po = false := by
 unfold tkn2 at *
 rw [List.take_add_one, hf, List.any_append, h]
 simpa [tk1p] using hp
theorem tkn2_hit {L : List FN} {pr po : Int} {i : Nat} {f : FN} (hf : L[i]? = some f) (hp : tk1p pr po f = true) : tkn2 L pr po = true := by
 unfold tkn2
 exact List.any_eq_true.2 ⟨f, List.mem_of_getElem? hf, hp⟩
set_option maxHeartbeats 1600000 in
set_option maxRecDepth 100000 in
theorem takenR_any (base : Nat) (c : CF) (a : Option Addr) (n m : Nat) (L : List FN) (pr po : Int) (w : World) (h : FL w base (.slice a n m) L) (hn : L.length = n) (hL : n ≤ 4200) : Calls Tryz.prog 69 #[.agg (rvC c a n m), .int .i64 pr, .int .i64 po] w fun r w' => r = .returned (.bool (tkn2 L pr po)) ∧ Below w.heap.size w w' := by
 have HH : Hid (FL w base (.slice a n m) L ∧ L.length = n ∧ n ≤ 4200) := ⟨h, hn, hL⟩
 clear h hn hL
 obtain ⟨W, B, HSZX, HOX, HLX, HWX, hb⟩ := zBx w (rvC c a n m) 36
 have HBX : Hid (RvtAt W B c a n m) := hb
 obtain ⟨CX, hC⟩ : ∃ C, C = rvC c a n m := ⟨_, rfl⟩
 rw [← hC] at HWX ⊢
 clear hb hC
 have H0 : Hid ((RvtAt W B c a n m ∧ FL W base (.slice a n m) L ∧ Below w.heap.size w W) ∧ tkn2 (L.take 0) pr po = false) := ⟨⟨HBX.out, HH.out.1.below HLX.out, HLX.out⟩, rfl⟩
 go_enter Tryz.func69, Tryz.ntmps69
 go_upto_region 1 with (first | (rw [HOX.out, HWX.out]))
 go_wp2_with fail
 go_loopw [7] (fun ix wr => ∃ i : Nat, ix = .int .i64 (i : Nat) ∧ i ≤ n ∧ Hid ((RvtAt wr B c a n m ∧ FL wr base (.slice a n m) L ∧ Below w.heap.size w wr) ∧ tkn2 (L.take i) pr po = false)) (fun ix _ => n - (intOf ix).toNat)
 case atStart => exact ⟨0, rfl, Nat.zero_le _, H0.out⟩
 case round =>
  clear H0
  obtain ⟨i, rfl, hi, HI⟩ := hrel
  by_cases hin : i < n
  · have p1 : decide ((i : Int) < (n : Int)) = true := decide_eq_true (by omega)
    have p2 : decide (i < n) = true := decide_eq_true hin
    have i0 : (0 : Int) ≤ (i : Int) := by omega
    have i1 : (i : Int) < (n : Int) := by omega
    have i2 : ((i : Int)).toNat = i := by omega
    have wi : IntKind.i64.wrap ((i : Int) + 1) = (i : Int) + 1 := i64_k _ (by omega) (by have := HH.out.2.2; omega)
    obtain ⟨f, hf⟩ : ∃ f, L[i]? = some f := ⟨_, List.getElem?_eq_getElem (by rw [HH.out.2.1]; exact hin)⟩
    obtain ⟨g, c', hv, _, _, hr⟩ := HI.out.1.2.1.at i f hf
    simp only [Value.slice.injEq] at hv
    obtain ⟨rfl, x1, x2⟩ := hv
    clear x1 x2
    have c25 : wr.cell? ⟨B, 25, none⟩ = some (.slice (some ⟨g, 0, none⟩) n m) := HI.out.1.1.cell 25
    obtain ⟨e1, h1⟩ : ∃ b, (f.x.pr == pr) = b := ⟨_, rfl⟩
    obtain ⟨e2, h2⟩ : ∃ b, (f.x.sV == 4) = b := ⟨_, rfl⟩
    obtain ⟨e3, h3⟩ : ∃ b, (f.po == po) = b := ⟨_, rfl⟩
    obtain ⟨q1, hq1⟩ : ∃ v, f.x.pr = v := ⟨_, rfl⟩
    obtain ⟨q2, hq2⟩ : ∃ v, f.x.sV = v := ⟨_, rfl⟩
    obtain ⟨q3, hq3⟩ : ∃ v, f.po = v := ⟨_, rfl⟩
    have k0 : wr.cell? ⟨g, i * 40, none⟩ = some (.int .i64 q1) := by rw [← hq1]; exact hr 0 _ rfl
    have k1 : wr.cell? ⟨g, i * 40 + 1, none⟩ = some (.int .i64 q2) := by rw [← hq2]; exact hr 1 _ rfl
    have k37 : wr.cell? ⟨g, i * 40 + 37, none⟩ = some (.int .i64 q3) := by rw [← hq3]; exact hr 37 _ rfl
    have HIN : Hid (i < n ∧ L[i]? = some f) := ⟨hin, hf⟩
    have HE : Hid ((f.x.pr == pr) = e1 ∧ (f.x.sV == 4) = e2 ∧ (f.po == po) = e3) := ⟨h1, h2, h3⟩
    rw [hq1] at h1
    rw [hq2] at h2
    rw [hq3] at h3
    clear hf hr hin hi hq1 hq2 hq3
    go_upto_region 4 with fail
    cases e1 with
    | false =>
     go_wp2_with fail
     go_roundw
     case rel => exact ⟨i + 1, by go_num, by have := HIN.out.1; omega, HI.out.1, tkn2_next HI.out.2 HIN.out.2 (by unfold tk1p; rw [HE.out.1]; rfl)⟩
     case measure => have := HIN.out.1; simp [intOf]; omega
    | true =>
     cases e2 with
     | false =>
      go_wp2_with fail
      go_roundw
      case rel => exact ⟨i + 1, by go_num, by have := HIN.out.1; omega, HI.out.1, tkn2_next HI.out.2 HIN.out.2 (by unfold tk1p; rw [HE.out.1, HE.out.2.1]; rfl)⟩
      case measure => have := HIN.out.1; simp [intOf]; omega
     | true =>
      cases e3 with
      | false =>
       go_wp2_with fail
       go_roundw
       case rel => exact ⟨i + 1, by go_num, by have := HIN.out.1; omega, HI.out.1, tkn2_next HI.out.2 HIN.out.2 (by unfold tk1p; rw [HE.out.1, HE.out.2.1, HE.out.2.2]; rfl)⟩
       case measure => have := HIN.out.1; simp [intOf]; omega
      | true =>
       go_wp2_with fail
       go_ret
       exact ⟨by rw [tkn2_hit HIN.out.2 (by unfold tk1p; rw [HE.out.1, HE.out.2.1, HE.out.2.2]; rfl)]; rfl, HI.out.1.2.2⟩
  · have p1 : decide ((i : Int) < (n : Int)) = false := decide_eq_false (by omega)
    have p2 : decide (i < n) = false := decide_eq_false hin
    have c25 : wr.cell? ⟨B, 25, none⟩ = some (.slice a n m) := HI.out.1.1.cell 25
    have HF : Hid (tkn2 L pr po = false) := by
     have h1 := HI.out.2
     rw [List.take_of_length_le (by rw [HH.out.2.1]; omega)] at h1
     exact h1
    clear hin hi
    go_wp2_with fail
    go_ret
    exact ⟨by rw [HF.out]; rfl, HI.out.1.2.2⟩
end Go.Proofs.YtclpeepnngegaaaGreatDoor
