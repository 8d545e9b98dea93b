/-
  FSo: lemmas of the proof of FlowPlays, and walks through the functions that it calls.
-/
import Derived.Test.YtclpeepnngegaaaGreatDoorP00
import Derived.Test.YtclpeepnngegaaaGreatDoorP40
namespace Go.Proofs.YtclpeepnngegaaaGreatDoor
open Go.RowKit Go.Maps
def FLX (W : World) (a : Option Addr) (n k : Nat) (L : List FN) (a' : Option Addr) (n' m' : Nat) (L' : List FN) (lo hi : Nat) (A : World) : Prop := (L' = L ∧ a' = a ∧ n' = n ∧ m' = k) ∨ (FL A W.heap.size (.slice a' n' m') L' ∧ ∀ q, (Value.slice a' n' m').ownBlock = some q → lo ≤ q ∧ q < hi)
theorem FLX.ch1 {W : World} {a : Option Addr} {n k : Nat} {L : List FN} {a' : Option Addr} {n' m' : Nat} {L' : List FN} {lo hi Z : Nat} {A A' : World} (h : FLX W a n k L a' n' m' L' lo hi A) (kk : Ch (fun q => q = Z) A A') (hz : Z < lo ∨ hi ≤ Z) : FLX W a n k L a' n' m' L' lo hi A' := by
 rcases h with h | ⟨h1, h2⟩
 · exact .inl h
 · exact .inr ⟨h1.ch kk (fun q hq e => by have e' : q = Z := e; have := h2 q hq; omega), h2⟩
theorem FLX.below {W : World} {a : Option Addr} {n k : Nat} {L : List FN} {a' : Option Addr} {n' m' : Nat} {L' : List FN} {lo hi : Nat} {A A' : World} (h : FLX W a n k L a' n' m' L' lo hi A) (kk : Below A.heap.size A A') : FLX W a n k L a' n' m' L' lo hi A' := by
 rcases h with h | ⟨h1, h2⟩
 · exact .inl h
 · exact .inr ⟨h1.below kk, h2⟩
theorem FLX.out {W : World} {a : Option Addr} {n k : Nat} {L : List FN} {a' : Option Addr} {n' m' : Nat} {L' : List FN} {lo hi s : Nat} {A : World} {P : Nat → Prop} (h : FLX W a n k L a' n' m' L' lo hi A) (hs : s ≤ lo) (hP : ∀ q, P q → q < lo) : (L' = L ∧ a' = a ∧ n' = n ∧ m' = k) ∨ (FL A W.heap.size (.slice a' n' m') L' ∧ ∀ q, (Value.slice a' n' m').ownBlock = some q → s ≤ q ∧ ¬ P q) := by
 rcases h with h | ⟨h1, h2⟩
 · exact .inl h
 · exact .inr ⟨h1, fun q hq => by have := h2 q hq; exact ⟨by omega, fun h3 => by have := hP q h3; omega⟩⟩
set_option maxHeartbeats 6400000 in
set_option maxRecDepth 100000 in
theorem step_out (W w : World) (t M N : Nat) (c : CF) (a : Option Addr) (n k : Nat) (ly : TU) (E : List FV) (L : List FN) (BK : Nat) (b : BV) (r : Nat) (s : SV) (h : StP W t M N c a n k ly E L w) (hB : BkP W BK b r w) (hd : ∀ q, KPB t M N a n k E q → ¬ BB BK b q) (g : Gl W) (hs : s.Wf) (hk : s.kd = 1) : Calls Tryz.prog 6 #[.agg (prC (⟨some ⟨t, 0, none⟩, c, a, n, k, ly⟩ : XV)), .agg (stC s), .pointer (some ⟨BK, 0, none⟩)] w (StD W t M N c a n k E BK b r s w) := by
 have HG : Hid (StP W t M N c a n k ly E L w ∧ BkP W BK b r w ∧ (∀ q, KPB t M N a n k E q → ¬ BB BK b q) ∧ Gl W ∧ s.Wf) := ⟨h, hB, hd, g, hs⟩
 clear h hB hd g hs
 obtain ⟨Wb, B, HSZX, HOX, HLX, HWX, hb⟩ := zBx w (prC (⟨some ⟨t, 0, none⟩, c, a, n, k, ly⟩ : XV)) 40
 have HBX : Hid (PrvAt Wb B (⟨some ⟨t, 0, none⟩, c, a, n, k, ly⟩ : XV)) := hb
 obtain ⟨CX, hC⟩ : ∃ C, C = prC (⟨some ⟨t, 0, none⟩, c, a, n, k, ly⟩ : XV) := ⟨_, rfl⟩
 rw [← hC] at HWX ⊢
 clear hb hC
 obtain ⟨Wd, D, HSZZ, HOZ, HLZ, HWZ, hb⟩ := zBx Wb (stC s) 47
 have HBZ : Hid (StpAt Wd D s) := hb
 obtain ⟨CZ, hC⟩ : ∃ C, C = stC s := ⟨_, rfl⟩
 rw [← hC] at HWZ ⊢
 clear hb hC
 obtain ⟨Y, O, -, HOY, HLY, HEY, hb⟩ := zBx Wd (prC pz0) 40
 have HNY : Hid (PrvAt Y O pz0) := hb
 clear hb
 have HNUM : Hid (w.heap.size = B ∧ B < D ∧ D < O ∧ W.heap.size ≤ w.heap.size) := by
  have h1 := HOX.out; have h2 := HSZX.out; have h3 := HOZ.out; have h4 := HSZZ.out; have h5 := HOY.out; have h6 := HG.out.1.ft.bel.size
  exact ⟨by omega, by omega, by omega, h6⟩
 have HBW : Hid (Below w.heap.size w Y) := bthen (bthen HLX.out HLZ.out) HLY.out
 have H0 : Hid (PrvAt Y B (⟨some ⟨t, 0, none⟩, c, a, n, k, ly⟩ : XV) ∧ StpAt Y D s ∧ PrvAt Y O pz0 ∧ FT W t M N c E Y) := ⟨(HBX.out.below HLZ.out).below HLY.out, HBZ.out.below HLY.out, HNY.out, HG.out.1.ft.below HBW.out⟩
 have c0 : Y.cell? ⟨B, 0, none⟩ = some (.pointer (some ⟨t, 0, none⟩)) := H0.out.1.cell 0
 have d0 : Y.cell? ⟨D, 0, none⟩ = some (.int .i64 1) := by have h1 := H0.out.2.1.cell 0; rw [← hk]; exact h1
 obtain ⟨fl, hfv⟩ : ∃ v, s.fl = v := ⟨_, rfl⟩
 have HFV : Hid (s.fl = fl) := hfv
 have d39 : Y.cell? ⟨D, 39, none⟩ = some (.int .i64 fl) := by have h1 := H0.out.2.1.cell 39; rw [← hfv]; exact h1
 have q11 : ((1 : Int) == 1) = true := rfl
 clear hk hfv
 go_enter Tryz.func6, Tryz.ntmps6
 go_upto_region 3 with (first | (rw [HOX.out, HWX.out]) | (rw [HOZ.out, HWZ.out]) | (refine wpList_alloc_prv rfl rfl ?_; rw [HEY.out, HOY.out]))
 have HY : Hid (PrvAt Y B (⟨some ⟨t, 0, none⟩, c, a, n, k, ly⟩ : XV) ∧ StpAt Y D s ∧ PrvAt Y O pz0 ∧ FT W t M N c E Y ∧ Ch (TB t M N E) w Y) := ⟨H0.out.1, H0.out.2.1, H0.out.2.2.1, H0.out.2.2.2, Ch.ofBelow HBW.out⟩
 have QO : Hid _ := H0.out.2.2.2.out HG.out.2.2.2.1 s.x HG.out.2.2.2.2.x fl
 go_wp2_with (refine wpList_mid_tup (.tmp 31) rfl D 2 s.x rfl H0.out.2.1.x rfl ?_)
 refine Calls.mono QO.out ?_
 rintro e1 w1 ⟨er, y, E', rfl, hR, hF, k1⟩
 have H1 : Hid (PrvAt w1 B (⟨some ⟨t, 0, none⟩, c, a, n, k, ly⟩ : XV) ∧ StpAt w1 D s ∧ PrvAt w1 O pz0 ∧ FT W t M N c E' w1 ∧ Ch (TB t M N E) w w1) := ⟨HY.out.1.tb HY.out.2.2.2.1.ta k1, HY.out.2.1.tb HY.out.2.2.2.1.ta k1, HY.out.2.2.1.tb HY.out.2.2.2.1.ta k1, hF, HY.out.2.2.2.2.trans k1 (fun _ _ q => q)⟩
 have HR : Hid ((OutR c E s.x fl Y.heap.size er y E') ∧ y.Wf ∧ ∀ q, TB t M N E' q → TB t M N E q ∨ w.heap.size ≤ q) := ⟨hR, out_wf HY.out.2.2.2.1 hR hF, fun q hq => (out_tb HY.out.2.2.2.1.ta.dj hR q hq).imp id (fun h => Nat.le_trans HY.out.2.2.2.2.size h)⟩
 clear hR hF k1 QO
 obtain ⟨Y8, O8, -, HOV, HLV, HEV, hb⟩ := zBx w1 (tuC xz) 38
 have HNV : Hid (TupAt Y8 O8 xz) := hb
 clear hb
 go_upto_region 4 with (first | (refine wpList_alloc_tup rfl rfl ?_; rw [HEV.out, HOV.out]) | (refine wpList_store_tup (.tmp 8) (.tmp 36) rfl rfl O8 xz y rfl rfl HNV.out rfl ?_; intro w2 h2 k2))
 have HN8 : Hid (O < O8 ∧ w.heap.size ≤ O8) := ⟨by have h1 := H1.out.2.2.1.lt; have h2 := HOV.out; omega, by have h1 := H1.out.2.2.1.lt; have h2 := HOV.out; have h3 := HNUM.out; omega⟩
 have H2 : Hid ((PrvAt w2 B (⟨some ⟨t, 0, none⟩, c, a, n, k, ly⟩ : XV) ∧ PrvAt w2 O pz0 ∧ FT W t M N c E' w2 ∧ TupAt w2 O8 y ∧ Ch (TB t M N E) w w2) ∧ StpAt w2 D s) := by
  have h8 := HN8.out; have h9 := HNUM.out
  have hf8 := H1.out.2.2.2.1.below HLV.out
  refine ⟨⟨(H1.out.1.below HLV.out).ch k2 (by omega), (H1.out.2.2.1.below HLV.out).ch k2 (by omega), hf8.chO k2 (by omega) (fun q hq e => hf8.ta.nb HNV.out (by decide) (by decide) (by subst e; exact hq)), h2, (H1.out.2.2.2.2.trans (Ch.ofBelow (S := fun _ => False) HLV.out) (fun _ _ q => q.elim)).trans k2 (fun q hq e => by have e' : q = O8 := e; omega)⟩, (H1.out.2.1.below HLV.out).ch k2 (by omega)⟩
 have HFL : Hid (FL w2 W.heap.size (.slice a n k) L) := HG.out.1.fl.ch H2.out.1.2.2.2.2 (fun q hq => HG.out.1.sp q hq)
 have HLN := HG.out.1.ln
 have HRF := HG.out.1.rf
 have QR : Hid _ := outR_any W.heap.size c a n k L s.x fl w2 HFL.out HLN.1 HLN.2 HG.out.2.2.2.2.x HRF.1 HRF.2.1 HRF.2.2.1
 have c39 : w2.cell? ⟨D, 39, none⟩ = some (.int .i64 fl) := by have h1 := H2.out.2.cell 39; rw [← HFV.out]; exact h1
 clear h2 k2 HLN HRF HFL
 go_wp2_with (first | (refine wpList_mid_rvt (.tmp 39) rfl B 1 c a n k rfl H2.out.1.1.w rfl ?_) | (refine wpList_mid_tup (.tmp 41) rfl D 2 s.x rfl H2.out.2.x rfl ?_))
 refine Calls.mono QR.out ?_
 rintro e3 w3 ⟨er', y', L', a', n', m', rfl, hS, hfl, hln, b3⟩
 obtain ⟨hea, hya, hJ⟩ := out_agree HG.out.1.jr HG.out.1.ft.ta.dj HG.out.1.ft.ta.wf HG.out.1.ft.ok HG.out.1.ft.ln HG.out.2.2.2.2.x HR.out.1 hS
 rw [hea, hya]
 obtain ⟨ws, hws⟩ : ∃ v, w2.heap.size = v := ⟨_, rfl⟩
 have HWS : Hid (w2.heap.size = ws) := hws
 rw [hws] at hfl
 have HJ : Hid (JR c E' L') := hJ
 have HTL : Hid (∀ q, TB t M N E' q → q < ws) := fun q hq => by rw [← HWS.out]; exact H2.out.1.2.2.1.ta.tlt q hq
 have H3 : Hid (PrvAt w3 B (⟨some ⟨t, 0, none⟩, c, a, n, k, ly⟩ : XV) ∧ PrvAt w3 O pz0 ∧ FT W t M N c E' w3 ∧ TupAt w3 O8 y ∧ Ch (TB t M N E) w w3) := ⟨H2.out.1.1.below b3, H2.out.1.2.1.below b3, H2.out.1.2.2.1.below b3, H2.out.1.2.2.2.1.below b3, H2.out.1.2.2.2.2.trans (Ch.ofBelow (S := fun _ => False) b3) (fun _ _ q => q.elim)⟩
 have HWS3 : Hid (ws ≤ w3.heap.size ∧ O8 < ws) := ⟨by rw [← HWS.out]; exact b3.size, by rw [← HWS.out]; exact H2.out.1.2.2.2.1.lt⟩
 have HFX : Hid (FLX W a n k L a' n' m' L' ws w3.heap.size w3) := by
  rcases hfl with h1 | h1
  · exact .inl h1
  · exact .inr ⟨h1.mono (by have h2 := HWS3.out; have h3 := HN8.out; have h4 := HNUM.out; omega), fun q hq => ⟨fl_base h1 hq, fl_lt h1 hq⟩⟩
 clear hS hfl hln b3 hea hya hJ hws QR c39 H2
 obtain ⟨Y10, O10, -, HOT, HLT, HET, hb⟩ := zBx w3 (rvC cz none 0 0) 36
 have HNT : Hid (RvtAt Y10 O10 cz none 0 0) := hb
 clear hb
 obtain ⟨Y11, O11, -, HOU, HLU, HEU, hb⟩ := zBx Y10 (tuC xz) 38
 have HNU : Hid (TupAt Y11 O11 xz) := hb
 clear hb
 rw [HOT.out] at HFX HWS3
 have HN11 : Hid (O10 < O11) := by have h1 := HNT.out.lt; have h2 := HOU.out; show _ < _; omega
 go_upto_region 5 with (first | (refine wpList_alloc_rvt rfl rfl ?_; rw [HET.out, HOT.out]) | (refine wpList_alloc_tup rfl rfl ?_; rw [HEU.out, HOU.out]) | (refine wpList_store_rvt (.tmp 10) (.tmp 46) rfl rfl O10 cz none 0 0 c a' n' m' rfl rfl (HNT.out.below HLU.out) rfl ?_; intro w4 h4 k4) | (refine wpList_store_tup (.tmp 11) (.tmp 47) rfl rfl O11 xz y rfl rfl (HNU.out.ch k4 (by have := HN11.out; omega)) rfl ?_; intro w5 h5 k5))
 have H5 : Hid (((PrvAt w5 B (⟨some ⟨t, 0, none⟩, c, a, n, k, ly⟩ : XV) ∧ PrvAt w5 O pz0 ∧ FT W t M N c E' w5 ∧ TupAt w5 O8 y ∧ Ch (TB t M N E) w w5) ∧ FLX W a n k L a' n' m' L' ws O10 w5) ∧ RvtAt w5 O10 c a' n' m' ∧ TupAt w5 O11 y) := by
  have n1 := HNUM.out; have n2 := HN8.out; have n3 := HWS3.out; have n4 := HN11.out
  have bb := bthen HLT.out HLU.out
  have hf8 := H3.out.2.2.1.below bb
  have t10 : RvtAt Y11 O10 cz none 0 0 := HNT.out.below HLU.out
  have hf9 := hf8.chO k4 (by omega) (fun q hq e => hf8.ta.nb t10 (by decide) (by decide) (by subst e; exact hq))
  have t11 := HNU.out.ch k4 (by omega)
  refine ⟨⟨⟨((H3.out.1.below bb).ch k4 (by omega)).ch k5 (by omega), ((H3.out.2.1.below bb).ch k4 (by omega)).ch k5 (by omega), hf9.chO k5 (by omega) (fun q hq e => hf9.ta.nb t11 (by decide) (by decide) (by subst e; exact hq)), ((H3.out.2.2.2.1.below bb).ch k4 (by omega)).ch k5 (by omega), ?_⟩, ((HFX.out.below bb).ch1 k4 (.inr (Nat.le_refl _))).ch1 k5 (.inr (by omega))⟩, h4.ch k5 (by omega), h5⟩
  exact ((H3.out.2.2.2.2.trans (Ch.ofBelow (S := fun _ => False) bb) (fun _ _ q => q.elim)).trans k4 (fun q hq e => by have e' : q = O10 := e; omega)).trans k5 (fun q hq e => by have e' : q = O11 := e; omega)
 clear h4 k4 h5 k5 H3 HFX
 go_upto_region 6 with (first | (refine wpList_load_rvt (.tmp 10) rfl O10 c a' n' m' rfl H5.out.2.1 rfl ?_) | (refine wpList_store_prw (.tmp 50) (.tmp 49) rfl rfl B (⟨some ⟨t, 0, none⟩, c, a, n, k, ly⟩ : XV) a' n' m' rfl rfl H5.out.1.1.1 rfl ?_; intro w6 h6 k6))
 have H6 : Hid (((PrvAt w6 B (⟨some ⟨t, 0, none⟩, c, a', n', m', ly⟩ : XV) ∧ PrvAt w6 O pz0 ∧ FT W t M N c E' w6 ∧ TupAt w6 O8 y ∧ Ch (TB t M N E) w w6) ∧ FLX W a n k L a' n' m' L' ws O10 w6) ∧ TupAt w6 O11 y) := by
  have n1 := HNUM.out; have n2 := HN8.out; have n3 := HWS3.out; have n4 := HN11.out
  have h5 := H5.out.1.1
  exact ⟨⟨⟨h6, h5.2.1.ch k6 (by omega), h5.2.2.1.chO k6 (by omega) (fun q hq e => h5.2.2.1.ta.nb h5.1 (by decide) (by decide) (by subst e; exact hq)), h5.2.2.2.1.ch k6 (by omega), h5.2.2.2.2.trans k6 (fun q hq e => by have e' : q = B := e; omega)⟩, H5.out.1.2.ch1 k6 (.inl (by omega))⟩, H5.out.2.2.ch k6 (by omega)⟩
 clear h6 k6 H5
 have qee : (er == er) = true := by simp
 obtain ⟨e6, h6⟩ : ∃ b, (er == 0) = b := ⟨_, rfl⟩
 have HE6 : Hid ((er == 0) = e6) := h6
 cases e6 with
 | true =>
  go_upto_region 8 with (first | (refine wpList_load_tup (.tmp 11) rfl O11 y rfl H6.out.2 rfl ?_) | (refine wpList_store_pry (.tmp 54) (.tmp 53) rfl rfl B (⟨some ⟨t, 0, none⟩, c, a', n', m', ly⟩ : XV) y rfl rfl H6.out.1.1.1 rfl ?_; intro w7 h7 k7))
  have H7 : Hid (((PrvAt w7 B (⟨some ⟨t, 0, none⟩, c, a', n', m', y⟩ : XV) ∧ PrvAt w7 O pz0 ∧ FT W t M N c E' w7 ∧ TupAt w7 O8 y ∧ Ch (TB t M N E) w w7) ∧ FLX W a n k L a' n' m' L' ws O10 w7) ∧ TupAt w7 O11 y) := by
   have n1 := HNUM.out; have n2 := HN8.out; have n3 := HWS3.out; have n4 := HN11.out
   have h5 := H6.out.1.1
   exact ⟨⟨⟨h7, h5.2.1.ch k7 (by omega), h5.2.2.1.chO k7 (by omega) (fun q hq e => h5.2.2.1.ta.nb h5.1 (by decide) (by decide) (by subst e; exact hq)), h5.2.2.2.1.ch k7 (by omega), h5.2.2.2.2.trans k7 (fun q hq e => by have e' : q = B := e; omega)⟩, H6.out.1.2.ch1 k7 (.inl (by omega))⟩, H6.out.2.ch k7 (by omega)⟩
  clear h7 k7
  go_upto_region 8 with fail
  refine MixH.start (fun A => PrvAt A B (⟨some ⟨t, 0, none⟩, c, a', n', m', y⟩ : XV) ∧ TupAt A O8 y ∧ TupAt A O11 y) (by kernel_rfl) ?_
  obtain ⟨wA, hwA⟩ : ∃ wA, wA = w7.drew := ⟨_, rfl⟩
  have bdr := zDr hwA
  have HA : Hid ((PrvAt wA B (⟨some ⟨t, 0, none⟩, c, a', n', m', y⟩ : XV) ∧ PrvAt wA O pz0 ∧ FT W t M N c E' wA ∧ TupAt wA O8 y ∧ Ch (TB t M N E) w wA) ∧ FLX W a n k L a' n' m' L' ws O10 wA) := ⟨⟨H7.out.1.1.1.below bdr, H7.out.1.1.2.1.below bdr, H7.out.1.1.2.2.1.below bdr, H7.out.1.1.2.2.2.1.below bdr, H7.out.1.1.2.2.2.2.trans (Ch.ofBelow (S := fun _ => False) bdr) (fun _ _ q => q.elim)⟩, H7.out.1.2.below bdr⟩
  have hS : PrvAt wA B (⟨some ⟨t, 0, none⟩, c, a', n', m', y⟩ : XV) ∧ TupAt wA O8 y ∧ TupAt wA O11 y := ⟨HA.out.1.1, HA.out.1.2.2.2.1, H7.out.2.below bdr⟩
  rw [← hwA]
  clear hwA bdr
  refine MixH.tk 10 0 rfl (.agg (prC (⟨some ⟨t, 0, none⟩, c, a', n', m', y⟩ : XV))) (yields_prv (.tmp 3) rfl B 0 (⟨some ⟨t, 0, none⟩, c, a', n', m', y⟩ : XV) rfl rfl (fun A hA => hA.1.all)) hS (fun a' ha => ?_)
  simp only [zP1, zP2, zP3, zP4] at ha
  subst ha
  refine MixH.tk 9 1 rfl (.agg (tuC y)) (yields_tup (.tmp 8) rfl O8 0 y rfl rfl (fun A hA => hA.2.1.all)) hS (fun a' ha => ?_)
  simp only [zP1, zP2, zP3, zP4] at ha
  subst ha
  refine MixH.tk 8 2 rfl (.agg (tuC y)) (yields_tup (.tmp 11) rfl O11 0 y rfl rfl (fun A hA => hA.2.2.all)) hS (fun a' ha => ?_)
  simp only [zP1, zP2, zP3, zP4] at ha
  subst ha
  refine MixH.tk 7 3 rfl (.bool true) (yields_eql_tu (.tmp 56) (.tmp 57) rfl y y rfl rfl true (by rw [eqP_refl]) rfl) hS (fun a' ha => ?_)
  simp only [zP1, zP2, zP3, zP4] at ha
  subst ha
  refine MixH.tks [false, false, false, false, true, true, true, true, true] 2 hS (fun K hK => ?_)
  simp only [Mix.pick]
  repeat (go_big_quiet_step (fail))
  refine wpQuiet_nil (hK _ ?_)
  clear hK K
  refine MixH.one [false, false, false, false, false, false, false, false, false, true] 1 9 _ rfl rfl (by kernel_rfl) (by kernel_rfl) (fun K hK => ?_)
  simp only [Mix.pick]
  go_wp2_with (refine wpList_store_prv (.tmp 6) (.tmp 55) rfl rfl O pz0 (⟨some ⟨t, 0, none⟩, c, a', n', m', y⟩ : XV) rfl rfl HA.out.1.2.1 rfl ?_)
  intro w9 h9 k9
  have hS' : PrvAt w9 B (⟨some ⟨t, 0, none⟩, c, a', n', m', y⟩ : XV) ∧ TupAt w9 O8 y ∧ TupAt w9 O11 y := by have n1 := HNUM.out; have n2 := HN8.out; have n3 := HWS3.out; have n4 := HN11.out; exact ⟨hS.1.ch k9 (by omega), hS.2.1.ch k9 (by omega), hS.2.2.ch k9 (by omega)⟩
  clear hS
  have hS : PrvAt w9 B (⟨some ⟨t, 0, none⟩, c, a', n', m', y⟩ : XV) ∧ TupAt w9 O8 y ∧ TupAt w9 O11 y := hS'
  clear hS'
  go_wp2_with fail
  refine ⟨rfl, hK _ _ hS ?_⟩
  clear hK K
  refine MixH.tks [false, false, false, false, false, false, false, false, false, false, true] 0 hS (fun K hK => ?_)
  simp only [Mix.pick]
  repeat (go_big_quiet_step (fail))
  refine wpQuiet_nil (hK _ ?_)
  clear hK K
  refine MixH.done (by kernel_rfl) ?_
  go_wp2_with fail
  refine bodyPost_ret (results_prv2 rfl _ _ O _ rfl h9) rfl ?_
  have n1 := HNUM.out; have n2 := HN8.out; have n3 := HWS3.out; have n4 := HN11.out
  exact StD.close HG.out.1 HG.out.2.1 HG.out.2.2.1 (HA.out.1.2.2.2.2.trans k9 (fun q hq e => by have e' : q = O := e; omega)) (HA.out.1.2.2.1.chO k9 (by omega) (fun q hq e => HA.out.1.2.2.1.ta.nb HA.out.1.2.1 (by decide) (by decide) (by subst e; exact hq))) HJ.out HR.out.2.2 ((HA.out.2.ch1 k9 (.inl (by omega))).out (by omega) HTL.out) HR.out.2.1 (fun _ => ⟨er, y, _, by rw [HFV.out]; exact HR.out.1, fun _ => rfl⟩)
 | false =>
  go_upto_region 8 with fail
  refine MixH.start (fun A => PrvAt A B (⟨some ⟨t, 0, none⟩, c, a', n', m', ly⟩ : XV) ∧ TupAt A O8 y ∧ TupAt A O11 y) (by kernel_rfl) ?_
  obtain ⟨wA, hwA⟩ : ∃ wA, wA = w6.drew := ⟨_, rfl⟩
  have bdr := zDr hwA
  have HA : Hid ((PrvAt wA B (⟨some ⟨t, 0, none⟩, c, a', n', m', ly⟩ : XV) ∧ PrvAt wA O pz0 ∧ FT W t M N c E' wA ∧ TupAt wA O8 y ∧ Ch (TB t M N E) w wA) ∧ FLX W a n k L a' n' m' L' ws O10 wA) := ⟨⟨H6.out.1.1.1.below bdr, H6.out.1.1.2.1.below bdr, H6.out.1.1.2.2.1.below bdr, H6.out.1.1.2.2.2.1.below bdr, H6.out.1.1.2.2.2.2.trans (Ch.ofBelow (S := fun _ => False) bdr) (fun _ _ q => q.elim)⟩, H6.out.1.2.below bdr⟩
  have hS : PrvAt wA B (⟨some ⟨t, 0, none⟩, c, a', n', m', ly⟩ : XV) ∧ TupAt wA O8 y ∧ TupAt wA O11 y := ⟨HA.out.1.1, HA.out.1.2.2.2.1, H6.out.2.below bdr⟩
  rw [← hwA]
  clear hwA bdr
  refine MixH.tk 10 0 rfl (.agg (prC (⟨some ⟨t, 0, none⟩, c, a', n', m', ly⟩ : XV))) (yields_prv (.tmp 3) rfl B 0 (⟨some ⟨t, 0, none⟩, c, a', n', m', ly⟩ : XV) rfl rfl (fun A hA => hA.1.all)) hS (fun a' ha => ?_)
  simp only [zP1, zP2, zP3, zP4] at ha
  subst ha
  refine MixH.tk 9 1 rfl (.agg (tuC y)) (yields_tup (.tmp 8) rfl O8 0 y rfl rfl (fun A hA => hA.2.1.all)) hS (fun a' ha => ?_)
  simp only [zP1, zP2, zP3, zP4] at ha
  subst ha
  refine MixH.tk 8 2 rfl (.agg (tuC y)) (yields_tup (.tmp 11) rfl O11 0 y rfl rfl (fun A hA => hA.2.2.all)) hS (fun a' ha => ?_)
  simp only [zP1, zP2, zP3, zP4] at ha
  subst ha
  refine MixH.tk 7 3 rfl (.bool true) (yields_eql_tu (.tmp 56) (.tmp 57) rfl y y rfl rfl true (by rw [eqP_refl]) rfl) hS (fun a' ha => ?_)
  simp only [zP1, zP2, zP3, zP4] at ha
  subst ha
  refine MixH.tks [false, false, false, false, true, true, true, true, true] 2 hS (fun K hK => ?_)
  simp only [Mix.pick]
  repeat (go_big_quiet_step (fail))
  refine wpQuiet_nil (hK _ ?_)
  clear hK K
  refine MixH.one [false, false, false, false, false, false, false, false, false, true] 1 9 _ rfl rfl (by kernel_rfl) (by kernel_rfl) (fun K hK => ?_)
  simp only [Mix.pick]
  go_wp2_with (refine wpList_store_prv (.tmp 6) (.tmp 55) rfl rfl O pz0 (⟨some ⟨t, 0, none⟩, c, a', n', m', ly⟩ : XV) rfl rfl HA.out.1.2.1 rfl ?_)
  intro w9 h9 k9
  have hS' : PrvAt w9 B (⟨some ⟨t, 0, none⟩, c, a', n', m', ly⟩ : XV) ∧ TupAt w9 O8 y ∧ TupAt w9 O11 y := by have n1 := HNUM.out; have n2 := HN8.out; have n3 := HWS3.out; have n4 := HN11.out; exact ⟨hS.1.ch k9 (by omega), hS.2.1.ch k9 (by omega), hS.2.2.ch k9 (by omega)⟩
  clear hS
  have hS : PrvAt w9 B (⟨some ⟨t, 0, none⟩, c, a', n', m', ly⟩ : XV) ∧ TupAt w9 O8 y ∧ TupAt w9 O11 y := hS'
  clear hS'
  go_wp2_with fail
  refine ⟨rfl, hK _ _ hS ?_⟩
  clear hK K
  refine MixH.tks [false, false, false, false, false, false, false, false, false, false, true] 0 hS (fun K hK => ?_)
  simp only [Mix.pick]
  repeat (go_big_quiet_step (fail))
  refine wpQuiet_nil (hK _ ?_)
  clear hK K
  refine MixH.done (by kernel_rfl) ?_
  go_wp2_with fail
  refine bodyPost_ret (results_prv2 rfl _ _ O _ rfl h9) rfl ?_
  have n1 := HNUM.out; have n2 := HN8.out; have n3 := HWS3.out; have n4 := HN11.out
  exact StD.close HG.out.1 HG.out.2.1 HG.out.2.2.1 (HA.out.1.2.2.2.2.trans k9 (fun q hq e => by have e' : q = O := e; omega)) (HA.out.1.2.2.1.chO k9 (by omega) (fun q hq e => HA.out.1.2.2.1.ta.nb HA.out.1.2.1 (by decide) (by decide) (by subst e; exact hq))) HJ.out HR.out.2.2 ((HA.out.2.ch1 k9 (.inl (by omega))).out (by omega) HTL.out) HG.out.1.ls (fun _ => ⟨er, y, _, by rw [HFV.out]; exact HR.out.1, fun h => by rw [h] at HE6; exact absurd HE6.out (by decide)⟩)
end Go.Proofs.YtclpeepnngegaaaGreatDoor
