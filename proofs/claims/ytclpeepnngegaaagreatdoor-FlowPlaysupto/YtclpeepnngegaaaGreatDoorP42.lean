/-
  FSi: lemmas of the proof of FlowPlays, and walks through the functions that it calls.
-/
import Derived.Test.YtclpeepnngegaaaGreatDoorP00
import Derived.Test.YtclpeepnngegaaaGreatDoorP41
namespace Go.Proofs.YtclpeepnngegaaaGreatDoor
open Go.RowKit Go.Maps
set_option maxHeartbeats 6400000 in
set_option maxRecDepth 100000 in
theorem step_in (W w : World) (t M N : Nat) (c : CF) (a : Option Addr) (n k : Nat) (ly : TU) (E : List FV) (L : List FN) (BK : Nat) (b : BV) (r : Nat) (s : SV) (h : StP W t M N c a n k ly E L w) (hB : BkP W BK b r w) (hd : ∀ q, KPB t M N a n k E q → ¬ BB BK b q) (g : Gl W) (hs : s.Wf) (hk : s.kd = 2 ∨ s.kd = 3) : Calls Tryz.prog 6 #[.agg (prC (⟨some ⟨t, 0, none⟩, c, a, n, k, ly⟩ : XV)), .agg (stC s), .pointer (some ⟨BK, 0, none⟩)] w (StD W t M N c a n k E BK b r s w) := by
 have HG : Hid (StP W t M N c a n k ly E L w ∧ BkP W BK b r w ∧ (∀ q, KPB t M N a n k E q → ¬ BB BK b q) ∧ Gl W ∧ s.Wf) := ⟨h, hB, hd, g, hs⟩
 clear h hB hd g hs
 obtain ⟨Wb, B, HSZX, HOX, HLX, HWX, hb⟩ := zBx w (prC (⟨some ⟨t, 0, none⟩, c, a, n, k, ly⟩ : XV)) 40
 have HBX : Hid (PrvAt Wb B (⟨some ⟨t, 0, none⟩, c, a, n, k, ly⟩ : XV)) := hb
 obtain ⟨CX, hC⟩ : ∃ C, C = prC (⟨some ⟨t, 0, none⟩, c, a, n, k, ly⟩ : XV) := ⟨_, rfl⟩
 rw [← hC] at HWX ⊢
 clear hb hC
 obtain ⟨Wd, D, HSZZ, HOZ, HLZ, HWZ, hb⟩ := zBx Wb (stC s) 47
 have HBZ : Hid (StpAt Wd D s) := hb
 obtain ⟨CZ, hC⟩ : ∃ C, C = stC s := ⟨_, rfl⟩
 rw [← hC] at HWZ ⊢
 clear hb hC
 obtain ⟨Y, O, -, HOY, HLY, HEY, hb⟩ := zBx Wd (prC pz0) 40
 have HNY : Hid (PrvAt Y O pz0) := hb
 clear hb
 have HNUM : Hid (w.heap.size = B ∧ B < D ∧ D < O ∧ W.heap.size ≤ w.heap.size) := by
  have h1 := HOX.out; have h2 := HSZX.out; have h3 := HOZ.out; have h4 := HSZZ.out; have h5 := HOY.out; have h6 := HG.out.1.ft.bel.size
  exact ⟨by omega, by omega, by omega, h6⟩
 have HBW : Hid (Below w.heap.size w Y) := bthen (bthen HLX.out HLZ.out) HLY.out
 have H0 : Hid (PrvAt Y B (⟨some ⟨t, 0, none⟩, c, a, n, k, ly⟩ : XV) ∧ StpAt Y D s ∧ PrvAt Y O pz0 ∧ FT W t M N c E Y) := ⟨(HBX.out.below HLZ.out).below HLY.out, HBZ.out.below HLY.out, HNY.out, HG.out.1.ft.below HBW.out⟩
 obtain ⟨fl, hfv⟩ : ∃ v, s.fl = v := ⟨_, rfl⟩
 have HFV : Hid (s.fl = fl) := hfv
 have HKD : Hid (s.kd = 2 ∨ s.kd = 3) := hk
 clear hfv
 obtain ⟨Y13, O13, -, HOI, HLI, HEI, hb⟩ := zBx Y (tuC xz) 38
 have HNI : Hid (TupAt Y13 O13 xz) := hb
 clear hb
 have HN13Y : Hid (O < O13) := by have h1 := HNY.out.lt; have h2 := HOI.out; show _ < _; omega
 go_enter Tryz.func6, Tryz.ntmps6
 rcases hk with hk | hk
 · have d0 : Y.cell? ⟨D, 0, none⟩ = some (.int .i64 2) := by have h1 := H0.out.2.1.cell 0; rw [← hk]; exact h1
   have d1 : ∀ A, StpAt A D s → A.cell? ⟨D, 0, none⟩ = some (.int .i64 2) := fun A hA => by have h1 := hA.cell 0; rw [← hk]; exact h1
   have HD1 : Hid _ := d1
   have q21 : ((2 : Int) == 1) = false := rfl
   have q22 : ((2 : Int) == 2) = true := rfl
   have q23 : ((2 : Int) == 3) = false := rfl
   obtain ⟨z, hz⟩ : ∃ z, s.x = z := ⟨_, rfl⟩
   have HZW : Hid (z.Wf) := by have h1 := HG.out.2.2.2.2.x; rw [hz] at h1; exact h1
   have HXZ : Hid (Y.rangeAt D 2 (tuC z).toList) := by have h1 := H0.out.2.1.x; rw [hz] at h1; exact h1
   clear hk hz d1
   go_upto_region 12 with (first | (rw [HOX.out, HWX.out]) | (rw [HOZ.out, HWZ.out]) | (refine wpList_alloc_prv rfl rfl ?_; rw [HEY.out, HOY.out]) | (refine wpList_mid_tup (.tmp 67) rfl D 2 z rfl HXZ.out rfl ?_) | (refine wpList_alloc_tup rfl rfl ?_; rw [HEI.out, HOI.out]) | (refine wpList_store_tup (.tmp 13) (.tmp 68) rfl rfl O13 xz z rfl rfl HNI.out rfl ?_; intro YY h2 k2))
   have HY : Hid (PrvAt YY B (⟨some ⟨t, 0, none⟩, c, a, n, k, ly⟩ : XV) ∧ StpAt YY D s ∧ PrvAt YY O pz0 ∧ FT W t M N c E YY ∧ Ch (TB t M N E) w YY) := by
    have n1 := HNUM.out; have n2 := HN13Y.out
    have hf := H0.out.2.2.2.below HLI.out
    exact ⟨(H0.out.1.below HLI.out).ch k2 (by omega), (H0.out.2.1.below HLI.out).ch k2 (by omega), (H0.out.2.2.1.below HLI.out).ch k2 (by omega), hf.chO k2 (by omega) (fun q hq e => hf.ta.nb HNI.out (by decide) (by decide) (by subst e; exact hq)), (Ch.ofBelow (bthen HBW.out HLI.out)).trans k2 (fun q hq e => by have e' : q = O13 := e; omega)⟩
   have HYX : Hid (TupAt YY O13 z) := h2
   have d0' := HD1.out YY HY.out.2.1
   clear h2 k2 d0 HD1
   go_upto_region 14 with fail
   have QI : Hid _ := HY.out.2.2.2.1.inn HG.out.2.2.2.1 z HZW.out fl
   have c0 : YY.cell? ⟨B, 0, none⟩ = some (.pointer (some ⟨t, 0, none⟩)) := HY.out.1.cell 0
   have d39 : YY.cell? ⟨D, 39, none⟩ = some (.int .i64 fl) := by have h1 := HY.out.2.1.cell 39; rw [← HFV.out]; exact h1
   go_wp2_with (refine wpList_load_tup (.tmp 13) rfl O13 z rfl HYX.out rfl ?_)
   refine Calls.mono QI.out ?_
   rintro e1 w1 ⟨er, y, E', rfl, hR, hF, k1⟩
   have H1 : Hid (PrvAt w1 B (⟨some ⟨t, 0, none⟩, c, a, n, k, ly⟩ : XV) ∧ StpAt w1 D s ∧ PrvAt w1 O pz0 ∧ FT W t M N c E' w1 ∧ Ch (TB t M N E) w w1) := ⟨HY.out.1.tb HY.out.2.2.2.1.ta k1, HY.out.2.1.tb HY.out.2.2.2.1.ta k1, HY.out.2.2.1.tb HY.out.2.2.2.1.ta k1, hF, HY.out.2.2.2.2.trans k1 (fun _ _ q => q)⟩
   have HR : Hid ((InR c E z fl er y E') ∧ y.Wf ∧ ∀ q, TB t M N E' q → TB t M N E q ∨ w.heap.size ≤ q) := ⟨hR, in_wf HY.out.2.2.2.1 hR, fun q hq => .inl (in_tb HY.out.2.2.2.1.ta.dj hR q hq)⟩
   have H1X : Hid (TupAt w1 O13 z) := HYX.out.tb HY.out.2.2.2.1.ta k1
   have HN13 : Hid (O13 < w1.heap.size) := H1X.out.lt
   clear hR hF k1 QI
   obtain ⟨Y8, O8, -, HOV, HLV, HEV, hb⟩ := zBx w1 (tuC xz) 38
   have HNV : Hid (TupAt Y8 O8 xz) := hb
   clear hb
   go_upto_region 15 with (first | (refine wpList_alloc_tup rfl rfl ?_; rw [HEV.out, HOV.out]) | (refine wpList_store_tup (.tmp 14) (.tmp 82) rfl rfl O8 xz y rfl rfl HNV.out rfl ?_; intro w2 h2 k2))
   have HN8 : Hid (O < O8 ∧ w.heap.size ≤ O8) := ⟨by have h1 := H1.out.2.2.1.lt; have h2 := HOV.out; omega, by have h1 := H1.out.2.2.1.lt; have h2 := HOV.out; have h3 := HNUM.out; omega⟩
   have H2 : Hid ((PrvAt w2 B (⟨some ⟨t, 0, none⟩, c, a, n, k, ly⟩ : XV) ∧ PrvAt w2 O pz0 ∧ FT W t M N c E' w2 ∧ TupAt w2 O8 y ∧ Ch (TB t M N E) w w2) ∧ StpAt w2 D s ∧ TupAt w2 O13 z) := by
    have h8 := HN8.out; have h9 := HNUM.out
    have hf8 := H1.out.2.2.2.1.below HLV.out
    refine ⟨⟨(H1.out.1.below HLV.out).ch k2 (by omega), (H1.out.2.2.1.below HLV.out).ch k2 (by omega), hf8.chO k2 (by omega) (fun q hq e => hf8.ta.nb HNV.out (by decide) (by decide) (by subst e; exact hq)), h2, (H1.out.2.2.2.2.trans (Ch.ofBelow (S := fun _ => False) HLV.out) (fun _ _ q => q.elim)).trans k2 (fun q hq e => by have e' : q = O8 := e; omega)⟩, (H1.out.2.1.below HLV.out).ch k2 (by omega), (H1X.out.below HLV.out).ch k2 (by have h1 := HN13.out; have h2 := HOV.out; omega)⟩
   have HFL : Hid (FL w2 W.heap.size (.slice a n k) L) := HG.out.1.fl.ch H2.out.1.2.2.2.2 (fun q hq => HG.out.1.sp q hq)
   have HLN := HG.out.1.ln
   have HRF := HG.out.1.rf
   have QR : Hid _ := inR_any W.heap.size c a n k L z fl w2 HFL.out HLN.1 HLN.2 HZW.out HRF.1 HRF.2.1 HRF.2.2.1
   have c39 : w2.cell? ⟨D, 39, none⟩ = some (.int .i64 fl) := by have h1 := H2.out.2.1.cell 39; rw [← HFV.out]; exact h1
   clear h2 k2 HLN HRF HFL
   go_wp2_with (first | (refine wpList_mid_rvt (.tmp 85) rfl B 1 c a n k rfl H2.out.1.1.w rfl ?_) | (refine wpList_load_tup (.tmp 13) rfl O13 z rfl H2.out.2.2 rfl ?_))
   refine Calls.mono QR.out ?_
   rintro e3 w3 ⟨er', y', L', a', n', m', rfl, hS, hfl, hln, b3⟩
   obtain ⟨hea, hya, hJ⟩ := in_agree HG.out.1.jr HG.out.1.ft.ta.dj HG.out.1.ft.ta.djq HG.out.1.ft.ta.wf HG.out.1.ft.ok HR.out.1 hS
   rw [hea, hya]
   obtain ⟨ws, hws⟩ : ∃ v, w2.heap.size = v := ⟨_, rfl⟩
   have HWS : Hid (w2.heap.size = ws) := hws
   rw [hws] at hfl
   have HJ : Hid (JR c E' L') := hJ
   have HTL : Hid (∀ q, TB t M N E' q → q < ws) := fun q hq => by rw [← HWS.out]; exact H2.out.1.2.2.1.ta.tlt q hq
   have H3 : Hid (PrvAt w3 B (⟨some ⟨t, 0, none⟩, c, a, n, k, ly⟩ : XV) ∧ PrvAt w3 O pz0 ∧ FT W t M N c E' w3 ∧ TupAt w3 O8 y ∧ Ch (TB t M N E) w w3) := ⟨H2.out.1.1.below b3, H2.out.1.2.1.below b3, H2.out.1.2.2.1.below b3, H2.out.1.2.2.2.1.below b3, H2.out.1.2.2.2.2.trans (Ch.ofBelow (S := fun _ => False) b3) (fun _ _ q => q.elim)⟩
   have HWS3 : Hid (ws ≤ w3.heap.size ∧ O8 < ws) := ⟨by rw [← HWS.out]; exact b3.size, by rw [← HWS.out]; exact H2.out.1.2.2.2.1.lt⟩
   have HFX : Hid (FLX W a n k L a' n' m' L' ws w3.heap.size w3) := by
    rcases hfl with h1 | h1
    · exact .inl h1
    · exact .inr ⟨h1.mono (by have h2 := HWS3.out; have h3 := HN8.out; have h4 := HNUM.out; omega), fun q hq => ⟨fl_base h1 hq, fl_lt h1 hq⟩⟩
   clear hS hfl hln b3 hea hya hJ hws QR c39 H2
   obtain ⟨Y10, O10, -, HOT, HLT, HET, hb⟩ := zBx w3 (rvC cz none 0 0) 36
   have HNT : Hid (RvtAt Y10 O10 cz none 0 0) := hb
   clear hb
   obtain ⟨Y11, O11, -, HOU, HLU, HEU, hb⟩ := zBx Y10 (tuC xz) 38
   have HNU : Hid (TupAt Y11 O11 xz) := hb
   clear hb
   rw [HOT.out] at HFX HWS3
   have HN11 : Hid (O10 < O11) := by have h1 := HNT.out.lt; have h2 := HOU.out; show _ < _; omega
   go_upto_region 16 with (first | (refine wpList_alloc_rvt rfl rfl ?_; rw [HET.out, HOT.out]) | (refine wpList_alloc_tup rfl rfl ?_; rw [HEU.out, HOU.out]) | (refine wpList_store_rvt (.tmp 16) (.tmp 91) rfl rfl O10 cz none 0 0 c a' n' m' rfl rfl (HNT.out.below HLU.out) rfl ?_; intro w4 h4 k4) | (refine wpList_store_tup (.tmp 17) (.tmp 92) rfl rfl O11 xz y rfl rfl (HNU.out.ch k4 (by have := HN11.out; omega)) rfl ?_; intro w5 h5 k5))
   have H5 : Hid (((PrvAt w5 B (⟨some ⟨t, 0, none⟩, c, a, n, k, ly⟩ : XV) ∧ PrvAt w5 O pz0 ∧ FT W t M N c E' w5 ∧ TupAt w5 O8 y ∧ Ch (TB t M N E) w w5) ∧ FLX W a n k L a' n' m' L' ws O10 w5) ∧ RvtAt w5 O10 c a' n' m' ∧ TupAt w5 O11 y) := by
    have n1 := HNUM.out; have n2 := HN8.out; have n3 := HWS3.out; have n4 := HN11.out
    have bb := bthen HLT.out HLU.out
    have hf8 := H3.out.2.2.1.below bb
    have t10 : RvtAt Y11 O10 cz none 0 0 := HNT.out.below HLU.out
    have hf9 := hf8.chO k4 (by omega) (fun q hq e => hf8.ta.nb t10 (by decide) (by decide) (by subst e; exact hq))
    have t11 := HNU.out.ch k4 (by omega)
    refine ⟨⟨⟨((H3.out.1.below bb).ch k4 (by omega)).ch k5 (by omega), ((H3.out.2.1.below bb).ch k4 (by omega)).ch k5 (by omega), hf9.chO k5 (by omega) (fun q hq e => hf9.ta.nb t11 (by decide) (by decide) (by subst e; exact hq)), ((H3.out.2.2.2.1.below bb).ch k4 (by omega)).ch k5 (by omega), ?_⟩, ((HFX.out.below bb).ch1 k4 (.inr (Nat.le_refl _))).ch1 k5 (.inr (by omega))⟩, h4.ch k5 (by omega), h5⟩
    exact ((H3.out.2.2.2.2.trans (Ch.ofBelow (S := fun _ => False) bb) (fun _ _ q => q.elim)).trans k4 (fun q hq e => by have e' : q = O10 := e; omega)).trans k5 (fun q hq e => by have e' : q = O11 := e; omega)
   clear h4 k4 h5 k5 H3 HFX
   go_upto_region 17 with (first | (refine wpList_load_rvt (.tmp 16) rfl O10 c a' n' m' rfl H5.out.2.1 rfl ?_) | (refine wpList_store_prw (.tmp 95) (.tmp 94) rfl rfl B (⟨some ⟨t, 0, none⟩, c, a, n, k, ly⟩ : XV) a' n' m' rfl rfl H5.out.1.1.1 rfl ?_; intro w6 h6 k6))
   have H6 : Hid (((PrvAt w6 B (⟨some ⟨t, 0, none⟩, c, a', n', m', ly⟩ : XV) ∧ PrvAt w6 O pz0 ∧ FT W t M N c E' w6 ∧ TupAt w6 O8 y ∧ Ch (TB t M N E) w w6) ∧ FLX W a n k L a' n' m' L' ws O10 w6) ∧ TupAt w6 O11 y) := by
    have n1 := HNUM.out; have n2 := HN8.out; have n3 := HWS3.out; have n4 := HN11.out
    have h5 := H5.out.1.1
    exact ⟨⟨⟨h6, h5.2.1.ch k6 (by omega), h5.2.2.1.chO k6 (by omega) (fun q hq e => h5.2.2.1.ta.nb h5.1 (by decide) (by decide) (by subst e; exact hq)), h5.2.2.2.1.ch k6 (by omega), h5.2.2.2.2.trans k6 (fun q hq e => by have e' : q = B := e; omega)⟩, H5.out.1.2.ch1 k6 (.inl (by omega))⟩, H5.out.2.2.ch k6 (by omega)⟩
   clear h6 k6 H5
   have qee : (er == er) = true := by simp
   go_upto_region 17 with fail
   refine MixH.start (fun A => PrvAt A B (⟨some ⟨t, 0, none⟩, c, a', n', m', ly⟩ : XV) ∧ TupAt A O8 y ∧ TupAt A O11 y) (by kernel_rfl) ?_
   obtain ⟨wA, hwA⟩ : ∃ wA, wA = w6.drew := ⟨_, rfl⟩
   have bdr := zDr hwA
   have HA : Hid ((PrvAt wA B (⟨some ⟨t, 0, none⟩, c, a', n', m', ly⟩ : XV) ∧ PrvAt wA O pz0 ∧ FT W t M N c E' wA ∧ TupAt wA O8 y ∧ Ch (TB t M N E) w wA) ∧ FLX W a n k L a' n' m' L' ws O10 wA) := ⟨⟨H6.out.1.1.1.below bdr, H6.out.1.1.2.1.below bdr, H6.out.1.1.2.2.1.below bdr, H6.out.1.1.2.2.2.1.below bdr, H6.out.1.1.2.2.2.2.trans (Ch.ofBelow (S := fun _ => False) bdr) (fun _ _ q => q.elim)⟩, H6.out.1.2.below bdr⟩
   have hS : PrvAt wA B (⟨some ⟨t, 0, none⟩, c, a', n', m', ly⟩ : XV) ∧ TupAt wA O8 y ∧ TupAt wA O11 y := ⟨HA.out.1.1, HA.out.1.2.2.2.1, H6.out.2.below bdr⟩
   rw [← hwA]
   clear hwA bdr
   refine MixH.tk 10 0 rfl (.agg (prC (⟨some ⟨t, 0, none⟩, c, a', n', m', ly⟩ : XV))) (yields_prv (.tmp 3) rfl B 0 (⟨some ⟨t, 0, none⟩, c, a', n', m', ly⟩ : XV) rfl rfl (fun A hA => hA.1.all)) hS (fun a' ha => ?_)
   simp only [zP1, zP2, zP3, zP4] at ha
   subst ha
   refine MixH.tk 9 1 rfl (.agg (tuC y)) (yields_tup (.tmp 14) rfl O8 0 y rfl rfl (fun A hA => hA.2.1.all)) hS (fun a' ha => ?_)
   simp only [zP1, zP2, zP3, zP4] at ha
   subst ha
   refine MixH.tk 8 2 rfl (.agg (tuC y)) (yields_tup (.tmp 17) rfl O11 0 y rfl rfl (fun A hA => hA.2.2.all)) hS (fun a' ha => ?_)
   simp only [zP1, zP2, zP3, zP4] at ha
   subst ha
   refine MixH.tk 7 3 rfl (.bool true) (yields_eql_tu (.tmp 97) (.tmp 98) rfl y y rfl rfl true (by rw [eqP_refl]) rfl) hS (fun a' ha => ?_)
   simp only [zP1, zP2, zP3, zP4] at ha
   subst ha
   refine MixH.tks [false, false, false, false, true, true, true, true, true] 2 hS (fun K hK => ?_)
   simp only [Mix.pick]
   repeat (go_big_quiet_step (fail))
   refine wpQuiet_nil (hK _ ?_)
   clear hK K
   refine MixH.one [false, false, false, false, false, false, false, false, false, true] 1 9 _ rfl rfl (by kernel_rfl) (by kernel_rfl) (fun K hK => ?_)
   simp only [Mix.pick]
   go_wp2_with (refine wpList_store_prv (.tmp 6) (.tmp 96) rfl rfl O pz0 (⟨some ⟨t, 0, none⟩, c, a', n', m', ly⟩ : XV) rfl rfl HA.out.1.2.1 rfl ?_)
   intro w9 h9 k9
   have hS' : PrvAt w9 B (⟨some ⟨t, 0, none⟩, c, a', n', m', ly⟩ : XV) ∧ TupAt w9 O8 y ∧ TupAt w9 O11 y := by have n1 := HNUM.out; have n2 := HN8.out; have n3 := HWS3.out; have n4 := HN11.out; exact ⟨hS.1.ch k9 (by omega), hS.2.1.ch k9 (by omega), hS.2.2.ch k9 (by omega)⟩
   clear hS
   have hS : PrvAt w9 B (⟨some ⟨t, 0, none⟩, c, a', n', m', ly⟩ : XV) ∧ TupAt w9 O8 y ∧ TupAt w9 O11 y := hS'
   clear hS'
   go_wp2_with fail
   refine ⟨rfl, hK _ _ hS ?_⟩
   clear hK K
   refine MixH.tks [false, false, false, false, false, false, false, false, false, false, true] 0 hS (fun K hK => ?_)
   simp only [Mix.pick]
   repeat (go_big_quiet_step (fail))
   refine wpQuiet_nil (hK _ ?_)
   clear hK K
   refine MixH.done (by kernel_rfl) ?_
   go_wp2_with fail
   refine bodyPost_ret (results_prv2 rfl _ _ O _ rfl h9) rfl ?_
   have n1 := HNUM.out; have n2 := HN8.out; have n3 := HWS3.out; have n4 := HN11.out
   exact StD.close HG.out.1 HG.out.2.1 HG.out.2.2.1 (HA.out.1.2.2.2.2.trans k9 (fun q hq e => by have e' : q = O := e; omega)) (HA.out.1.2.2.1.chO k9 (by omega) (fun q hq e => HA.out.1.2.2.1.ta.nb HA.out.1.2.1 (by decide) (by decide) (by subst e; exact hq))) HJ.out HR.out.2.2 ((HA.out.2.ch1 k9 (.inl (by omega))).out (by omega) HTL.out) HG.out.1.ls (fun h => by have h1 := HKD.out; omega)
 · have d0 : Y.cell? ⟨D, 0, none⟩ = some (.int .i64 3) := by have h1 := H0.out.2.1.cell 0; rw [← hk]; exact h1
   have d1 : ∀ A, StpAt A D s → A.cell? ⟨D, 0, none⟩ = some (.int .i64 3) := fun A hA => by have h1 := hA.cell 0; rw [← hk]; exact h1
   have HD1 : Hid _ := d1
   have q21 : ((3 : Int) == 1) = false := rfl
   have q22 : ((3 : Int) == 2) = false := rfl
   have q23 : ((3 : Int) == 3) = true := rfl
   clear hk d1
   go_upto_region 12 with (first | (rw [HOX.out, HWX.out]) | (rw [HOZ.out, HWZ.out]) | (refine wpList_alloc_prv rfl rfl ?_; rw [HEY.out, HOY.out]) | (refine wpList_mid_tup (.tmp 67) rfl D 2 s.x rfl H0.out.2.1.x rfl ?_) | (refine wpList_alloc_tup rfl rfl ?_; rw [HEI.out, HOI.out]) | (refine wpList_store_tup (.tmp 13) (.tmp 68) rfl rfl O13 xz s.x rfl rfl HNI.out rfl ?_; intro YX h2 k2))
   have HYA : Hid (PrvAt YX B (⟨some ⟨t, 0, none⟩, c, a, n, k, ly⟩ : XV) ∧ StpAt YX D s ∧ PrvAt YX O pz0 ∧ FT W t M N c E YX ∧ Ch (TB t M N E) w YX ∧ TupAt YX O13 s.x) := by
    have n1 := HNUM.out; have n2 := HN13Y.out
    have hf := H0.out.2.2.2.below HLI.out
    exact ⟨(H0.out.1.below HLI.out).ch k2 (by omega), (H0.out.2.1.below HLI.out).ch k2 (by omega), (H0.out.2.2.1.below HLI.out).ch k2 (by omega), hf.chO k2 (by omega) (fun q hq e => hf.ta.nb HNI.out (by decide) (by decide) (by subst e; exact hq)), (Ch.ofBelow (bthen HBW.out HLI.out)).trans k2 (fun q hq e => by have e' : q = O13 := e; omega), h2⟩
   have d0' := HD1.out YX HYA.out.2.1
   clear h2 k2 d0 HD1
   obtain ⟨z, hz⟩ : ∃ z, ly.rev = z := ⟨_, rfl⟩
   have HZW : Hid (z.Wf) := by have h1 := HG.out.1.ls.rev; rw [hz] at h1; exact h1
   have QV : Hid (Calls Tryz.prog 14 #[.agg (tuC ly)] YX fun r w' => r = .returned (.agg (tuC z)) ∧ Below YX.heap.size YX w') := by have h1 := reverseR_any ly YX; rw [hz] at h1; exact h1
   clear hz
   go_upto_region 13 with fail
   go_wp2_with (refine wpList_mid_tup (.tmp 72) rfl B 27 ly rfl HYA.out.1.t rfl ?_)
   refine Calls.mono QV.out ?_
   rintro ev wv ⟨rfl, bv⟩
   have HYB : Hid (PrvAt wv B (⟨some ⟨t, 0, none⟩, c, a, n, k, ly⟩ : XV) ∧ StpAt wv D s ∧ PrvAt wv O pz0 ∧ FT W t M N c E wv ∧ Ch (TB t M N E) w wv ∧ TupAt wv O13 s.x) := ⟨HYA.out.1.below bv, HYA.out.2.1.below bv, HYA.out.2.2.1.below bv, HYA.out.2.2.2.1.below bv, HYA.out.2.2.2.2.1.trans (Ch.ofBelow (S := fun _ => False) bv) (fun _ _ q => q.elim), HYA.out.2.2.2.2.2.below bv⟩
   clear bv QV d0' HYA
   go_upto_region 14 with (refine wpList_store_tup (.tmp 13) (.tmp 74) rfl rfl O13 s.x z rfl rfl HYB.out.2.2.2.2.2 rfl ?_; intro YY h2 k2)
   have HY : Hid (PrvAt YY B (⟨some ⟨t, 0, none⟩, c, a, n, k, ly⟩ : XV) ∧ StpAt YY D s ∧ PrvAt YY O pz0 ∧ FT W t M N c E YY ∧ Ch (TB t M N E) w YY) := by
    have n1 := HNUM.out; have n2 := HN13Y.out
    have h5 := HYB.out
    exact ⟨h5.1.ch k2 (by omega), h5.2.1.ch k2 (by omega), h5.2.2.1.ch k2 (by omega), h5.2.2.2.1.chO k2 (by omega) (fun q hq e => h5.2.2.2.1.ta.nb h5.2.2.2.2.2 (by decide) (by decide) (by subst e; exact hq)), h5.2.2.2.2.1.trans k2 (fun q hq e => by have e' : q = O13 := e; omega)⟩
   have HYX : Hid (TupAt YY O13 z) := h2
   clear h2 k2 HYB
   have QI : Hid _ := HY.out.2.2.2.1.inn HG.out.2.2.2.1 z HZW.out fl
   have c0 : YY.cell? ⟨B, 0, none⟩ = some (.pointer (some ⟨t, 0, none⟩)) := HY.out.1.cell 0
   have d39 : YY.cell? ⟨D, 39, none⟩ = some (.int .i64 fl) := by have h1 := HY.out.2.1.cell 39; rw [← HFV.out]; exact h1
   go_wp2_with (refine wpList_load_tup (.tmp 13) rfl O13 z rfl HYX.out rfl ?_)
   refine Calls.mono QI.out ?_
   rintro e1 w1 ⟨er, y, E', rfl, hR, hF, k1⟩
   have H1 : Hid (PrvAt w1 B (⟨some ⟨t, 0, none⟩, c, a, n, k, ly⟩ : XV) ∧ StpAt w1 D s ∧ PrvAt w1 O pz0 ∧ FT W t M N c E' w1 ∧ Ch (TB t M N E) w w1) := ⟨HY.out.1.tb HY.out.2.2.2.1.ta k1, HY.out.2.1.tb HY.out.2.2.2.1.ta k1, HY.out.2.2.1.tb HY.out.2.2.2.1.ta k1, hF, HY.out.2.2.2.2.trans k1 (fun _ _ q => q)⟩
   have HR : Hid ((InR c E z fl er y E') ∧ y.Wf ∧ ∀ q, TB t M N E' q → TB t M N E q ∨ w.heap.size ≤ q) := ⟨hR, in_wf HY.out.2.2.2.1 hR, fun q hq => .inl (in_tb HY.out.2.2.2.1.ta.dj hR q hq)⟩
   have H1X : Hid (TupAt w1 O13 z) := HYX.out.tb HY.out.2.2.2.1.ta k1
   have HN13 : Hid (O13 < w1.heap.size) := H1X.out.lt
   clear hR hF k1 QI
   obtain ⟨Y8, O8, -, HOV, HLV, HEV, hb⟩ := zBx w1 (tuC xz) 38
   have HNV : Hid (TupAt Y8 O8 xz) := hb
   clear hb
   go_upto_region 15 with (first | (refine wpList_alloc_tup rfl rfl ?_; rw [HEV.out, HOV.out]) | (refine wpList_store_tup (.tmp 14) (.tmp 82) rfl rfl O8 xz y rfl rfl HNV.out rfl ?_; intro w2 h2 k2))
   have HN8 : Hid (O < O8 ∧ w.heap.size ≤ O8) := ⟨by have h1 := H1.out.2.2.1.lt; have h2 := HOV.out; omega, by have h1 := H1.out.2.2.1.lt; have h2 := HOV.out; have h3 := HNUM.out; omega⟩
   have H2 : Hid ((PrvAt w2 B (⟨some ⟨t, 0, none⟩, c, a, n, k, ly⟩ : XV) ∧ PrvAt w2 O pz0 ∧ FT W t M N c E' w2 ∧ TupAt w2 O8 y ∧ Ch (TB t M N E) w w2) ∧ StpAt w2 D s ∧ TupAt w2 O13 z) := by
    have h8 := HN8.out; have h9 := HNUM.out
    have hf8 := H1.out.2.2.2.1.below HLV.out
    refine ⟨⟨(H1.out.1.below HLV.out).ch k2 (by omega), (H1.out.2.2.1.below HLV.out).ch k2 (by omega), hf8.chO k2 (by omega) (fun q hq e => hf8.ta.nb HNV.out (by decide) (by decide) (by subst e; exact hq)), h2, (H1.out.2.2.2.2.trans (Ch.ofBelow (S := fun _ => False) HLV.out) (fun _ _ q => q.elim)).trans k2 (fun q hq e => by have e' : q = O8 := e; omega)⟩, (H1.out.2.1.below HLV.out).ch k2 (by omega), (H1X.out.below HLV.out).ch k2 (by have h1 := HN13.out; have h2 := HOV.out; omega)⟩
   have HFL : Hid (FL w2 W.heap.size (.slice a n k) L) := HG.out.1.fl.ch H2.out.1.2.2.2.2 (fun q hq => HG.out.1.sp q hq)
   have HLN := HG.out.1.ln
   have HRF := HG.out.1.rf
   have QR : Hid _ := inR_any W.heap.size c a n k L z fl w2 HFL.out HLN.1 HLN.2 HZW.out HRF.1 HRF.2.1 HRF.2.2.1
   have c39 : w2.cell? ⟨D, 39, none⟩ = some (.int .i64 fl) := by have h1 := H2.out.2.1.cell 39; rw [← HFV.out]; exact h1
   clear h2 k2 HLN HRF HFL
   go_wp2_with (first | (refine wpList_mid_rvt (.tmp 85) rfl B 1 c a n k rfl H2.out.1.1.w rfl ?_) | (refine wpList_load_tup (.tmp 13) rfl O13 z rfl H2.out.2.2 rfl ?_))
   refine Calls.mono QR.out ?_
   rintro e3 w3 ⟨er', y', L', a', n', m', rfl, hS, hfl, hln, b3⟩
   obtain ⟨hea, hya, hJ⟩ := in_agree HG.out.1.jr HG.out.1.ft.ta.dj HG.out.1.ft.ta.djq HG.out.1.ft.ta.wf HG.out.1.ft.ok HR.out.1 hS
   rw [hea, hya]
   obtain ⟨ws, hws⟩ : ∃ v, w2.heap.size = v := ⟨_, rfl⟩
   have HWS : Hid (w2.heap.size = ws) := hws
   rw [hws] at hfl
   have HJ : Hid (JR c E' L') := hJ
   have HTL : Hid (∀ q, TB t M N E' q → q < ws) := fun q hq => by rw [← HWS.out]; exact H2.out.1.2.2.1.ta.tlt q hq
   have H3 : Hid (PrvAt w3 B (⟨some ⟨t, 0, none⟩, c, a, n, k, ly⟩ : XV) ∧ PrvAt w3 O pz0 ∧ FT W t M N c E' w3 ∧ TupAt w3 O8 y ∧ Ch (TB t M N E) w w3) := ⟨H2.out.1.1.below b3, H2.out.1.2.1.below b3, H2.out.1.2.2.1.below b3, H2.out.1.2.2.2.1.below b3, H2.out.1.2.2.2.2.trans (Ch.ofBelow (S := fun _ => False) b3) (fun _ _ q => q.elim)⟩
   have HWS3 : Hid (ws ≤ w3.heap.size ∧ O8 < ws) := ⟨by rw [← HWS.out]; exact b3.size, by rw [← HWS.out]; exact H2.out.1.2.2.2.1.lt⟩
   have HFX : Hid (FLX W a n k L a' n' m' L' ws w3.heap.size w3) := by
    rcases hfl with h1 | h1
    · exact .inl h1
    · exact .inr ⟨h1.mono (by have h2 := HWS3.out; have h3 := HN8.out; have h4 := HNUM.out; omega), fun q hq => ⟨fl_base h1 hq, fl_lt h1 hq⟩⟩
   clear hS hfl hln b3 hea hya hJ hws QR c39 H2
   obtain ⟨Y10, O10, -, HOT, HLT, HET, hb⟩ := zBx w3 (rvC cz none 0 0) 36
   have HNT : Hid (RvtAt Y10 O10 cz none 0 0) := hb
   clear hb
   obtain ⟨Y11, O11, -, HOU, HLU, HEU, hb⟩ := zBx Y10 (tuC xz) 38
   have HNU : Hid (TupAt Y11 O11 xz) := hb
   clear hb
   rw [HOT.out] at HFX HWS3
   have HN11 : Hid (O10 < O11) := by have h1 := HNT.out.lt; have h2 := HOU.out; show _ < _; omega
   go_upto_region 16 with (first | (refine wpList_alloc_rvt rfl rfl ?_; rw [HET.out, HOT.out]) | (refine wpList_alloc_tup rfl rfl ?_; rw [HEU.out, HOU.out]) | (refine wpList_store_rvt (.tmp 16) (.tmp 91) rfl rfl O10 cz none 0 0 c a' n' m' rfl rfl (HNT.out.below HLU.out) rfl ?_; intro w4 h4 k4) | (refine wpList_store_tup (.tmp 17) (.tmp 92) rfl rfl O11 xz y rfl rfl (HNU.out.ch k4 (by have := HN11.out; omega)) rfl ?_; intro w5 h5 k5))
   have H5 : Hid (((PrvAt w5 B (⟨some ⟨t, 0, none⟩, c, a, n, k, ly⟩ : XV) ∧ PrvAt w5 O pz0 ∧ FT W t M N c E' w5 ∧ TupAt w5 O8 y ∧ Ch (TB t M N E) w w5) ∧ FLX W a n k L a' n' m' L' ws O10 w5) ∧ RvtAt w5 O10 c a' n' m' ∧ TupAt w5 O11 y) := by
    have n1 := HNUM.out; have n2 := HN8.out; have n3 := HWS3.out; have n4 := HN11.out
    have bb := bthen HLT.out HLU.out
    have hf8 := H3.out.2.2.1.below bb
    have t10 : RvtAt Y11 O10 cz none 0 0 := HNT.out.below HLU.out
    have hf9 := hf8.chO k4 (by omega) (fun q hq e => hf8.ta.nb t10 (by decide) (by decide) (by subst e; exact hq))
    have t11 := HNU.out.ch k4 (by omega)
    refine ⟨⟨⟨((H3.out.1.below bb).ch k4 (by omega)).ch k5 (by omega), ((H3.out.2.1.below bb).ch k4 (by omega)).ch k5 (by omega), hf9.chO k5 (by omega) (fun q hq e => hf9.ta.nb t11 (by decide) (by decide) (by subst e; exact hq)), ((H3.out.2.2.2.1.below bb).ch k4 (by omega)).ch k5 (by omega), ?_⟩, ((HFX.out.below bb).ch1 k4 (.inr (Nat.le_refl _))).ch1 k5 (.inr (by omega))⟩, h4.ch k5 (by omega), h5⟩
    exact ((H3.out.2.2.2.2.trans (Ch.ofBelow (S := fun _ => False) bb) (fun _ _ q => q.elim)).trans k4 (fun q hq e => by have e' : q = O10 := e; omega)).trans k5 (fun q hq e => by have e' : q = O11 := e; omega)
   clear h4 k4 h5 k5 H3 HFX
   go_upto_region 17 with (first | (refine wpList_load_rvt (.tmp 16) rfl O10 c a' n' m' rfl H5.out.2.1 rfl ?_) | (refine wpList_store_prw (.tmp 95) (.tmp 94) rfl rfl B (⟨some ⟨t, 0, none⟩, c, a, n, k, ly⟩ : XV) a' n' m' rfl rfl H5.out.1.1.1 rfl ?_; intro w6 h6 k6))
   have H6 : Hid (((PrvAt w6 B (⟨some ⟨t, 0, none⟩, c, a', n', m', ly⟩ : XV) ∧ PrvAt w6 O pz0 ∧ FT W t M N c E' w6 ∧ TupAt w6 O8 y ∧ Ch (TB t M N E) w w6) ∧ FLX W a n k L a' n' m' L' ws O10 w6) ∧ TupAt w6 O11 y) := by
    have n1 := HNUM.out; have n2 := HN8.out; have n3 := HWS3.out; have n4 := HN11.out
    have h5 := H5.out.1.1
    exact ⟨⟨⟨h6, h5.2.1.ch k6 (by omega), h5.2.2.1.chO k6 (by omega) (fun q hq e => h5.2.2.1.ta.nb h5.1 (by decide) (by decide) (by subst e; exact hq)), h5.2.2.2.1.ch k6 (by omega), h5.2.2.2.2.trans k6 (fun q hq e => by have e' : q = B := e; omega)⟩, H5.out.1.2.ch1 k6 (.inl (by omega))⟩, H5.out.2.2.ch k6 (by omega)⟩
   clear h6 k6 H5
   have qee : (er == er) = true := by simp
   go_upto_region 17 with fail
   refine MixH.start (fun A => PrvAt A B (⟨some ⟨t, 0, none⟩, c, a', n', m', ly⟩ : XV) ∧ TupAt A O8 y ∧ TupAt A O11 y) (by kernel_rfl) ?_
   obtain ⟨wA, hwA⟩ : ∃ wA, wA = w6.drew := ⟨_, rfl⟩
   have bdr := zDr hwA
   have HA : Hid ((PrvAt wA B (⟨some ⟨t, 0, none⟩, c, a', n', m', ly⟩ : XV) ∧ PrvAt wA O pz0 ∧ FT W t M N c E' wA ∧ TupAt wA O8 y ∧ Ch (TB t M N E) w wA) ∧ FLX W a n k L a' n' m' L' ws O10 wA) := ⟨⟨H6.out.1.1.1.below bdr, H6.out.1.1.2.1.below bdr, H6.out.1.1.2.2.1.below bdr, H6.out.1.1.2.2.2.1.below bdr, H6.out.1.1.2.2.2.2.trans (Ch.ofBelow (S := fun _ => False) bdr) (fun _ _ q => q.elim)⟩, H6.out.1.2.below bdr⟩
   have hS : PrvAt wA B (⟨some ⟨t, 0, none⟩, c, a', n', m', ly⟩ : XV) ∧ TupAt wA O8 y ∧ TupAt wA O11 y := ⟨HA.out.1.1, HA.out.1.2.2.2.1, H6.out.2.below bdr⟩
   rw [← hwA]
   clear hwA bdr
   refine MixH.tk 10 0 rfl (.agg (prC (⟨some ⟨t, 0, none⟩, c, a', n', m', ly⟩ : XV))) (yields_prv (.tmp 3) rfl B 0 (⟨some ⟨t, 0, none⟩, c, a', n', m', ly⟩ : XV) rfl rfl (fun A hA => hA.1.all)) hS (fun a' ha => ?_)
   simp only [zP1, zP2, zP3, zP4] at ha
   subst ha
   refine MixH.tk 9 1 rfl (.agg (tuC y)) (yields_tup (.tmp 14) rfl O8 0 y rfl rfl (fun A hA => hA.2.1.all)) hS (fun a' ha => ?_)
   simp only [zP1, zP2, zP3, zP4] at ha
   subst ha
   refine MixH.tk 8 2 rfl (.agg (tuC y)) (yields_tup (.tmp 17) rfl O11 0 y rfl rfl (fun A hA => hA.2.2.all)) hS (fun a' ha => ?_)
   simp only [zP1, zP2, zP3, zP4] at ha
   subst ha
   refine MixH.tk 7 3 rfl (.bool true) (yields_eql_tu (.tmp 97) (.tmp 98) rfl y y rfl rfl true (by rw [eqP_refl]) rfl) hS (fun a' ha => ?_)
   simp only [zP1, zP2, zP3, zP4] at ha
   subst ha
   refine MixH.tks [false, false, false, false, true, true, true, true, true] 2 hS (fun K hK => ?_)
   simp only [Mix.pick]
   repeat (go_big_quiet_step (fail))
   refine wpQuiet_nil (hK _ ?_)
   clear hK K
   refine MixH.one [false, false, false, false, false, false, false, false, false, true] 1 9 _ rfl rfl (by kernel_rfl) (by kernel_rfl) (fun K hK => ?_)
   simp only [Mix.pick]
   go_wp2_with (refine wpList_store_prv (.tmp 6) (.tmp 96) rfl rfl O pz0 (⟨some ⟨t, 0, none⟩, c, a', n', m', ly⟩ : XV) rfl rfl HA.out.1.2.1 rfl ?_)
   intro w9 h9 k9
   have hS' : PrvAt w9 B (⟨some ⟨t, 0, none⟩, c, a', n', m', ly⟩ : XV) ∧ TupAt w9 O8 y ∧ TupAt w9 O11 y := by have n1 := HNUM.out; have n2 := HN8.out; have n3 := HWS3.out; have n4 := HN11.out; exact ⟨hS.1.ch k9 (by omega), hS.2.1.ch k9 (by omega), hS.2.2.ch k9 (by omega)⟩
   clear hS
   have hS : PrvAt w9 B (⟨some ⟨t, 0, none⟩, c, a', n', m', ly⟩ : XV) ∧ TupAt w9 O8 y ∧ TupAt w9 O11 y := hS'
   clear hS'
   go_wp2_with fail
   refine ⟨rfl, hK _ _ hS ?_⟩
   clear hK K
   refine MixH.tks [false, false, false, false, false, false, false, false, false, false, true] 0 hS (fun K hK => ?_)
   simp only [Mix.pick]
   repeat (go_big_quiet_step (fail))
   refine wpQuiet_nil (hK _ ?_)
   clear hK K
   refine MixH.done (by kernel_rfl) ?_
   go_wp2_with fail
   refine bodyPost_ret (results_prv2 rfl _ _ O _ rfl h9) rfl ?_
   have n1 := HNUM.out; have n2 := HN8.out; have n3 := HWS3.out; have n4 := HN11.out
   exact StD.close HG.out.1 HG.out.2.1 HG.out.2.2.1 (HA.out.1.2.2.2.2.trans k9 (fun q hq e => by have e' : q = O := e; omega)) (HA.out.1.2.2.1.chO k9 (by omega) (fun q hq e => HA.out.1.2.2.1.ta.nb HA.out.1.2.1 (by decide) (by decide) (by subst e; exact hq))) HJ.out HR.out.2.2 ((HA.out.2.ch1 k9 (.inl (by omega))).out (by omega) HTL.out) HG.out.1.ls (fun h => by have h1 := HKD.out; omega)
end Go.Proofs.YtclpeepnngegaaaGreatDoor
