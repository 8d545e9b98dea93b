/-
  FlowPlaysWalk: lemmas of the proof of FlowPlays, and walks through the functions that it calls.
-/
import Derived.Test.YtclpeepnngegaaaGreatDoorP00
import Derived.Test.YtclpeepnngegaaaGreatDoorP44
namespace Go.Proofs.YtclpeepnngegaaaGreatDoor
open Go.RowKit Go.Maps
theorem and1 (n : Int) : bits .and .i64 n 1 = n % 2 := by
 have h1 : (BitVec.ofInt 64 1).toNat = 2 ^ 1 - 1 := by decide
 have key : (BitVec.ofInt 64 n &&& BitVec.ofInt 64 1).toNat = (n % ((2 ^ 64 : Nat) : Int)).toNat % 2 ^ 1 := by
  rw [BitVec.toNat_and, BitVec.toNat_ofInt, h1, Nat.and_two_pow_sub_one_eq_mod]
 show IntKind.i64.wrap ((BitVec.ofInt 64 n &&& BitVec.ofInt 64 1).toNat : Nat) = n % 2
 rw [key, IntKind.wrap_i64]
 omega
theorem st1_wf : SV.Wf ⟨1, 0, x0, 0, 0⟩ := ⟨x0_wf, rfl, rfl⟩
theorem st5_wf : SV.Wf ⟨5, 0, xz, 0, 0⟩ := ⟨xz_wf, rfl, rfl⟩
set_option maxHeartbeats 12800000 in
set_option maxRecDepth 100000 in
theorem flowPlays.walk (w : World) (hT : Gl w) (c : CF) (hc : ∀ i, i < 16 → c.o i < 256) (b : Option Addr) (len bcap : Nat) (ss : List SV) (hl : ss.length = len) (hs : ListG 41 stL SV.Wf w b ss) (hn : len ≤ 1048576) : Calls Tryz.prog 3 #[.agg (cfC c), .slice b len bcap] w fun e w' => e = .returned (.bool true) ∧ Below w.heap.size w w' := by
 have HG : Hid (Gl w ∧ (∀ i, i < 16 → c.o i < 256)) := ⟨hT, hc⟩
 have HS : Hid (ListG 41 stL SV.Wf w b ss ∧ ss.length = len ∧ len ≤ 1048576) := ⟨hs, hl, hn⟩
 have hlen := hn
 clear hT hc hs hl hn
 obtain ⟨W, B, HSZX, HOX, HLX, HWX, hb⟩ := zBx w (cfC c) 26
 have HBX : Hid (CfgAt W B c) := hb
 obtain ⟨CX, hC⟩ : ∃ C, C = cfC c := ⟨_, rfl⟩
 rw [← hC] at HWX ⊢
 clear hb hC
 obtain ⟨wk, hwk⟩ : ∃ x, W.alloc (.cells #[.slice none 0 0, .slice none 0 0] 32) = x := ⟨_, rfl⟩
 obtain ⟨BK, hBK⟩ : ∃ x, W.heap.size = x := ⟨_, rfl⟩
 have HWK : Hid (W.alloc (.cells #[.slice none 0 0, .slice none 0 0] 32) = wk ∧ W.heap.size = BK) := ⟨hwk, hBK⟩
 have bk1 : Below W.heap.size W wk := by rw [← hwk]; exact (Below.refl _ _).alloc (Nat.le_refl _) _
 have HK1 : Hid (BkM wk BK bz0 ∧ CfgAt wk B c ∧ Below w.heap.size w wk) := ⟨by have h1 := bk_new W wk hwk; rw [hBK] at h1; exact h1, HBX.out.below bk1, bthen HLX.out bk1⟩
 have HNB : Hid (w.heap.size = B ∧ B < BK) := by have h1 := HOX.out; have h2 := HSZX.out; have h3 := hBK; exact ⟨by omega, by omega⟩
 clear hwk hBK bk1
 go_enter Tryz.func3, Tryz.ntmps3
 go_upto_region 2 with (first | (rw [HOX.out, HWX.out]))
 rw [HWK.out.1, HWK.out.2]
 go_wp2_with fail
 refine (config0_any wk).mono ?_
 rintro e0 w1 ⟨rfl, b1⟩
 obtain ⟨cc, hcc⟩ : ∃ cc, cf0 = cc := ⟨_, rfl⟩
 have HCC : Hid (cf0 = cc) := hcc
 have Q1 := made_any cf0 w1 w cf0_o HG.out.1 (bthen HK1.out.2.2 b1)
 rw [hcc] at Q1 ⊢
 have Q1 : Hid _ := Q1
 have HK2 : Hid (BkM w1 BK bz0 ∧ CfgAt w1 B c ∧ Below w.heap.size w w1) := ⟨HK1.out.1.below b1, HK1.out.2.1.below b1, bthen HK1.out.2.2 b1⟩
 clear b1 hcc HK1
 go_wp2_with fail
 refine Calls.mono Q1.out ?_
 rintro e1 w2 ⟨x1, rfl, b2, hx⟩
 obtain ⟨t, M, N, rfl, hF, hq⟩ : ∃ t M N, x1 = ⟨some ⟨t, 0, none⟩, cc, none, 0, 0, xz⟩ ∧ FT w t M N cc [] w2 ∧ ∀ q, TB t M N [] q → w1.heap.size ≤ q := by
  rcases hx with ⟨_, h⟩ | ⟨h, _⟩
  · exact h
  · rw [← HCC.out, cf0_b] at h
    cases h
 have H2 : Hid (BkM w2 BK bz0 ∧ CfgAt w2 B c ∧ Below w.heap.size w w2 ∧ FT w t M N cc [] w2 ∧ ∀ q, TB t M N [] q → BK < q ∧ q < w2.heap.size) := ⟨HK2.out.1.below b2, HK2.out.2.1.below b2, bthen HK2.out.2.2 b2, hF, fun q h => ⟨by have h1 := hq q h; have h2 := HK2.out.1.lt BK (.inl rfl); omega, hF.ta.tlt q h⟩⟩
 clear b2 hx hF hq Q1 HK2
 obtain ⟨Y6, O6, -, HOV, HLV, HEV, hb⟩ := zBx w2 (prC pz0) 40
 have HNV : Hid (PrvAt Y6 O6 pz0) := hb
 clear hb
 go_upto_region 3 with (first | (refine wpList_alloc_prv rfl rfl ?_; rw [HEV.out, HOV.out]) | (refine wpList_store_prv (.tmp 6) (.tmp 18) rfl rfl O6 pz0 (⟨some ⟨t, 0, none⟩, cc, none, 0, 0, xz⟩ : XV) rfl rfl HNV.out rfl ?_; intro w3 h3 k3))
 have H3 : Hid (PrvAt w3 O6 (⟨some ⟨t, 0, none⟩, cc, none, 0, 0, xz⟩ : XV) ∧ CfgAt w3 B c ∧ PLS w BK bz0 0 O6 (⟨some ⟨t, 0, none⟩, cc, none, 0, 0, xz⟩ : XV) (⟨t, M, N, [], []⟩ : GO) pz0 (⟨0, 0, 0, [], []⟩ : GO) w3) := by
  have n1 := HOV.out; have n2 := HNB.out; have n3 := H2.out.2.2.1.size
  have bf := H2.out.1.lt BK (.inl rfl)
  have hf := (H2.out.2.2.2.1.below HLV.out).chO k3 (by omega) (fun q hq e => by have := (H2.out.2.2.2.2 q hq).2; omega)
  have hob : ∀ q, obQ (⟨some ⟨t, 0, none⟩, cc, none, 0, 0, xz⟩ : XV) (⟨t, M, N, [], []⟩ : GO) q → TB t M N [] q := fun q hq => by
   rcases hq.2 with h | h
   · exact h
   · simp [Value.ownBlock] at h
  refine ⟨h3, (H2.out.2.1.below HLV.out).ch k3 (by omega), .inr ⟨rfl, hf, JR.nil _, FL.nil _ _, xz_wf, fun q hq => (by simp [Value.ownBlock] at hq)⟩, .inl rfl, ⟨(H2.out.1.below HLV.out).ch k3 (fun q hq e => ?_), rfl, by simp [bz0], fun q hq => ?_⟩, fun q hq h => ?_, fun q hq => absurd rfl hq.1, fun q hq h => absurd rfl h.1, fun q hq => ?_, fun q hq => absurd rfl hq.1, fun q hq => ?_, h3.lt, by omega, hf.bel⟩
  · have e' : q = O6 := e
    have := bz0_bb hq
    omega
  · have := bz0_bb hq
    omega
  · have h1 := bz0_bb h
    have h2 := (H2.out.2.2.2.2 q (hob q hq)).1
    omega
  · have h2 := (H2.out.2.2.2.2 q (hob q hq)).2
    omega
  · have h1 := bz0_bb hq
    omega
 have HBT : Hid (∀ q, (obQ (⟨some ⟨t, 0, none⟩, cc, none, 0, 0, xz⟩ : XV) (⟨t, M, N, [], []⟩ : GO) q ∨ BB BK bz0 q) → q ≠ B) := fun q hq => by
  have n2 := HNB.out
  rcases hq with hq | hq
  · rcases hq.2 with h | h
    · have := (H2.out.2.2.2.2 q h).1
      omega
    · simp [Value.ownBlock] at h
  · have := bz0_bb hq
    omega
 have HO6 : Hid (B < O6) := by have n1 := HOV.out; have n2 := HNB.out; have n3 := H2.out.2.1.lt; show _ < _; omega
 clear h3 k3 H2
 have c0 : w3.cell? ⟨O6, 0, none⟩ = some (.pointer (some ⟨t, 0, none⟩)) := H3.out.1.cell 0
 go_upto_region 5 with fail
 clear c0
 go_cut [7] (fun f wx => f = .bool true ∧ Hid (∃ x' o' b', PrvAt wx O6 x' ∧ CfgAt wx B c ∧ PLS w BK b' 4 O6 x' o' pz0 (⟨0, 0, 0, [], []⟩ : GO) wx ∧ x'.p = some ⟨o'.t, 0, none⟩ ∧ x'.y.sp = 1000 ∧ o'.E.length = 1))
 case first =>
  refine MixL.start (fun A => PrvAt A O6 (⟨some ⟨t, 0, none⟩, cc, none, 0, 0, xz⟩ : XV)) 8 (by kernel_rfl) ?_
  obtain ⟨wA, hwA⟩ : ∃ wA, wA = w3.drew := ⟨_, rfl⟩
  have bdr := zDr hwA
  have HA : Hid (CfgAt wA B c ∧ PLS w BK bz0 0 O6 (⟨some ⟨t, 0, none⟩, cc, none, 0, 0, xz⟩ : XV) (⟨t, M, N, [], []⟩ : GO) pz0 (⟨0, 0, 0, [], []⟩ : GO) wA) := ⟨H3.out.2.1.below bdr, H3.out.2.2.below bdr⟩
  have hS : PrvAt wA O6 (⟨some ⟨t, 0, none⟩, cc, none, 0, 0, xz⟩ : XV) := H3.out.1.below bdr
  rw [← hwA]
  clear hwA bdr H3
  refine MixL.take 9 0 _ (.agg (prC (⟨some ⟨t, 0, none⟩, cc, none, 0, 0, xz⟩ : XV))) rfl (by kernel_rfl) (by kernel_rfl) (by kernel_rfl) (by kernel_rfl) (by kernel_rfl) (by kernel_rfl) (by kernel_rfl) (yields_prv (.tmp 6) rfl O6 0 (⟨some ⟨t, 0, none⟩, cc, none, 0, 0, xz⟩ : XV) rfl rfl (fun A hA => hA.all)) hS (fun a' ha => ?_)
  simp only [zP1, zP2, zP3, zP4] at ha
  subst ha
  refine MixL.takes [false, false, false, true] 8 (by kernel_rfl) (by kernel_rfl) (by decide) (by kernel_rfl) (by kernel_rfl) (by kernel_rfl) hS (fun K hK => ?_)
  simp only [Mix.pick]
  repeat (go_big_quiet_step (fail))
  refine wpQuiet_nil (hK _ ?_)
  clear hK K
  refine MixL.many [1] 7 (by kernel_rfl) (by decide) (by kernel_rfl) ?_
  intro i_ hi_
  simp only [zMc, zMn, or_false] at hi_
  subst hi_
  refine ⟨_, rfl, fun K hK => ?_⟩
  go_wp2_with fail
  refine (ask0_any wA).mono ?_
  rintro ea w4 ⟨rfl, b4⟩
  have HA4 : Hid (CfgAt w4 B c ∧ PLS w BK bz0 0 O6 (⟨some ⟨t, 0, none⟩, cc, none, 0, 0, xz⟩ : XV) (⟨t, M, N, [], []⟩ : GO) pz0 (⟨0, 0, 0, [], []⟩ : GO) w4) := ⟨HA.out.1.below b4, HA.out.2.below b4⟩
  have hS' : PrvAt w4 O6 (⟨some ⟨t, 0, none⟩, cc, none, 0, 0, xz⟩ : XV) := hS.below b4
  clear hS b4 HA
  have hS : PrvAt w4 O6 (⟨some ⟨t, 0, none⟩, cc, none, 0, 0, xz⟩ : XV) := hS'
  clear hS'
  go_wp2_with fail
  refine ⟨rfl, hK _ _ (fun _ => hS) ?_⟩
  clear hK K
  refine MixL.many [2] 6 (by kernel_rfl) (by decide) (by kernel_rfl) ?_
  intro i_ hi_
  simp only [zMc, zMn, or_false] at hi_
  subst hi_
  refine ⟨_, rfl, fun K hK => ?_⟩
  go_wp2_with (refine wpList_stb1 (.tmp 29) rfl x0 rfl rfl ?_)
  refine ⟨rfl, hK _ _ (fun _ => hS) ?_⟩
  clear hK K
  have QS : Hid _ := play0 HA4.out.2 (by simp) HG.out.1 (s := ⟨1, 0, x0, 0, 0⟩) st1_wf (by omega)
  refine MixL.many [4] 5 (by kernel_rfl) (by decide) (by kernel_rfl) ?_
  intro i_ hi_
  simp only [zMc, zMn, or_false] at hi_
  subst hi_
  refine ⟨_, rfl, fun K hK => ?_⟩
  go_wp2_with fail
  refine Calls.mono QS.out ?_
  rintro eb w5 ⟨x', o', b', rfl, hP, k5, hp0, hp1, hO⟩
  have H5 : Hid (PLS w BK b' 4 O6 x' o' pz0 (⟨0, 0, 0, [], []⟩ : GO) w5 ∧ CfgAt w5 B c ∧ x'.p = some ⟨o'.t, 0, none⟩ ∧ x'.y.sp = 1000 ∧ o'.E.length = 1) := by
   obtain ⟨er, y, B', hR, hy⟩ := hO (by trivial)
   have hcf := HCC.out
   subst hcf
   obtain ⟨her, hye, P, _, hE⟩ := out_new hR x0_ck rfl (v := 7) (by decide +kernel) (by decide) bg0 fp0
   have h2 := hy her
   refine ⟨hP, HA4.out.1.ch k5 (fun h => HBT.out B h rfl), hp1, ?_, ?_⟩
   · rw [h2, hye]; rfl
   · rw [hE]; rfl
  have hS' : PrvAt w5 O6 (⟨some ⟨t, 0, none⟩, cc, none, 0, 0, xz⟩ : XV) := hS.ch k5 (fun h => by
   rcases h with h | h
   · exact HA4.out.2.z0 O6 h rfl
   · exact HA4.out.2.zb O6 h rfl)
  clear hS hP k5 hp0 hp1 hO HA4 QS
  have hS : PrvAt w5 O6 (⟨some ⟨t, 0, none⟩, cc, none, 0, 0, xz⟩ : XV) := hS'
  clear hS'
  go_wp2_with fail
  refine ⟨rfl, hK _ _ (fun _ => hS) ?_⟩
  clear hK K
  refine MixL.takes [false, false, false, false, false, true, true] 3 (by kernel_rfl) (by kernel_rfl) (by decide) (by kernel_rfl) (by kernel_rfl) (by kernel_rfl) hS (fun K hK => ?_)
  simp only [Mix.pick]
  repeat (go_big_quiet_step (fail))
  refine wpQuiet_nil (hK _ ?_)
  clear hK K
  refine MixL.many [7, 8] 2 (by kernel_rfl) (by decide) (by kernel_rfl) ?_
  intro i_ hi_
  simp only [zMc, zMn, or_false] at hi_
  rcases hi_ with rfl | rfl
  · refine ⟨_, rfl, fun K hK => ?_⟩
    go_wp2_with fail
    refine ⟨rfl, hK _ _ (fun _ => hS) ?_⟩
    clear hK K
    refine MixL.many [8] 1 (by kernel_rfl) (by decide) (by kernel_rfl) ?_
    intro i_ hi_
    simp only [zMc, zMn, or_false] at hi_
    subst hi_
    refine ⟨_, rfl, fun K hK => ?_⟩
    go_wp2_with (refine wpList_store_prv (.tmp 6) (.tmp 33) rfl rfl O6 (⟨some ⟨t, 0, none⟩, cc, none, 0, 0, xz⟩ : XV) x' rfl rfl hS rfl ?_)
    intro w6 h6 k6
    have HR : Hid (∃ x' o' b', PrvAt w6 O6 x' ∧ CfgAt w6 B c ∧ PLS w BK b' 4 O6 x' o' pz0 (⟨0, 0, 0, [], []⟩ : GO) w6 ∧ x'.p = some ⟨o'.t, 0, none⟩ ∧ x'.y.sp = 1000 ∧ o'.E.length = 1) := ⟨x', o', b', h6, H5.out.2.1.ch k6 (by have h1 := HNB.out; have h2 := HO6.out; omega), H5.out.1.chZ k6, H5.out.2.2⟩
    clear h6 k6 hS
    go_wp2_with fail
    refine ⟨rfl, hK _ _ (fun q => absurd (q.symm.trans (by kernel_rfl)) Bool.false_ne_true) ?_⟩
    clear hK K
    refine MixL.many [9] 0 (by kernel_rfl) (by decide) (by kernel_rfl) ?_
    intro i_ hi_
    simp only [zMc, zMn, or_false] at hi_
    subst hi_
    refine ⟨_, rfl, fun K hK => ?_⟩
    go_wp2_with fail
    refine ⟨rfl, hK _ _ (fun q => absurd (q.symm.trans (by kernel_rfl)) Bool.false_ne_true) ?_⟩
    clear hK K
    refine MixL.done (by kernel_rfl) ?_
    go_wp2_with fail
    go_meet
    exact ⟨rfl, HR⟩
  · refine ⟨_, rfl, fun K hK => ?_⟩
    go_wp2_with (refine wpList_store_prv (.tmp 6) (.tmp 33) rfl rfl O6 (⟨some ⟨t, 0, none⟩, cc, none, 0, 0, xz⟩ : XV) x' rfl rfl hS rfl ?_)
    intro w6 h6 k6
    have HR : Hid (∃ x' o' b', PrvAt w6 O6 x' ∧ CfgAt w6 B c ∧ PLS w BK b' 4 O6 x' o' pz0 (⟨0, 0, 0, [], []⟩ : GO) w6 ∧ x'.p = some ⟨o'.t, 0, none⟩ ∧ x'.y.sp = 1000 ∧ o'.E.length = 1) := ⟨x', o', b', h6, H5.out.2.1.ch k6 (by have h1 := HNB.out; have h2 := HO6.out; omega), H5.out.1.chZ k6, H5.out.2.2⟩
    clear h6 k6 hS
    go_wp2_with fail
    refine ⟨rfl, hK _ _ (fun q => absurd (q.symm.trans (by kernel_rfl)) Bool.false_ne_true) ?_⟩
    clear hK K
    refine MixL.many [7] 1 (by kernel_rfl) (by decide) (by kernel_rfl) ?_
    intro i_ hi_
    simp only [zMc, zMn, or_false] at hi_
    subst hi_
    refine ⟨_, rfl, fun K hK => ?_⟩
    go_wp2_with fail
    refine ⟨rfl, hK _ _ (fun q => absurd (q.symm.trans (by kernel_rfl)) Bool.false_ne_true) ?_⟩
    clear hK K
    refine MixL.many [9] 0 (by kernel_rfl) (by decide) (by kernel_rfl) ?_
    intro i_ hi_
    simp only [zMc, zMn, or_false] at hi_
    subst hi_
    refine ⟨_, rfl, fun K hK => ?_⟩
    go_wp2_with fail
    refine ⟨rfl, hK _ _ (fun q => absurd (q.symm.trans (by kernel_rfl)) Bool.false_ne_true) ?_⟩
    clear hK K
    refine MixL.done (by kernel_rfl) ?_
    go_wp2_with fail
    go_meet
    exact ⟨rfl, HR⟩
 case rest =>
  obtain ⟨rfl, HC⟩ := hcut
  obtain ⟨x1, o1, b5, h51, h52, h53, h54, h55, h56⟩ := HC.out
  obtain ⟨w6, hw6⟩ : ∃ W_, W_ = wc := ⟨_, rfl⟩
  rw [← hw6] at h51 h52 h53 ⊢
  have H5 : Hid (PrvAt w6 O6 x1 ∧ CfgAt w6 B c ∧ PLS w BK b5 4 O6 x1 o1 pz0 (⟨0, 0, 0, [], []⟩ : GO) w6 ∧ x1.p = some ⟨o1.t, 0, none⟩) := ⟨h51, h52, h53, h54⟩
  have QL : Hid (Calls Tryz.prog 8 #[.pointer (some ⟨o1.t, 0, none⟩)] w6 fun r w' => r = .returned (.int .i64 1) ∧ w6 = w') := by
   rcases h53.k0 with h1 | ⟨_, h2⟩
   · rw [h54] at h1
     cases h1
   · have h3 := h2.ft.lens
     rw [h56] at h3
     exact h3
  have c62 : w6.cell? ⟨O6, 62, none⟩ = some (.int .i64 1000) := by have h1 := h51.cell 62; rw [← h55]; exact h1
  have c0 : w6.cell? ⟨O6, 0, none⟩ = some (.pointer (some ⟨o1.t, 0, none⟩)) := by have h1 := h51.cell 0; rw [← h54]; exact h1
  have q1000 : ((1000 : Int) != 1000) = false := rfl
  have q1 : ((1 : Int) != 1) = false := rfl
  clear HC H3 h51 h52 h53 h54 h55 h56 hw6
  go_upto_region 6 with fail
  go_wp2_with fail
  refine Calls.mono QL.out ?_
  rintro e2 _ ⟨rfl, rfl⟩
  go_upto_region 8 with fail
  clear c62 c0 QL
  have Q2 : Hid _ := made_any c w6 w HG.out.2 HG.out.1 H5.out.2.2.1.bel
  go_wp2_with (refine wpList_load_cfg (.tmp 2) rfl B c rfl H5.out.2.1 rfl ?_)
  refine Calls.mono Q2.out ?_
  rintro e3 w7 ⟨x0, rfl, b7, hx⟩
  obtain ⟨o0, hx0⟩ : ∃ o0, OBK w x0 o0 w7 ∧ ∀ q, obQ x0 o0 q → w6.heap.size ≤ q := by
   rcases hx with ⟨_, t, M, N, rfl, hF, hq⟩ | ⟨_, rfl⟩
   · exact ⟨⟨t, M, N, [], []⟩, .inr ⟨rfl, hF, JR.nil _, FL.nil _ _, xz_wf, fun q hq => (by simp [Value.ownBlock] at hq)⟩, fun q h => by
       rcases h.2 with h1 | h1
       · exact hq q h1
       · simp [Value.ownBlock] at h1⟩
   · exact ⟨(⟨0, 0, 0, [], []⟩ : GO), .inl rfl, fun q h => absurd rfl h.1⟩
  have H7 : Hid (PrvAt w7 O6 x1 ∧ PLS w BK b5 4 O6 x1 o1 pz0 (⟨0, 0, 0, [], []⟩ : GO) w7 ∧ OBK w x0 o0 w7 ∧ (∀ q, obQ x0 o0 q → w6.heap.size ≤ q)) := ⟨H5.out.1.below b7, H5.out.2.2.1.below b7, hx0.1, hx0.2⟩
  have HL6 : Hid ((∀ q, obQ x1 o1 q → q < w6.heap.size) ∧ (∀ q, BB BK b5 q → q < w6.heap.size)) := ⟨H5.out.2.2.1.k0.lt, H5.out.2.2.1.bk.bk.lt⟩
  have HSZ67 : Hid (w6.heap.size ≤ w7.heap.size) := b7.size
  clear b7 hx hx0 Q2 H5
  obtain ⟨Y8, O8, -, HOU, HLU, HEU, hb⟩ := zBx w7 (prC pz0) 40
  have HNU : Hid (PrvAt Y8 O8 pz0) := hb
  clear hb
  go_upto_region 9 with (first | (refine wpList_alloc_prv rfl rfl ?_; rw [HEU.out, HOU.out]) | (refine wpList_store_prv (.tmp 8) (.tmp 52) rfl rfl O8 pz0 x0 rfl rfl HNU.out rfl ?_; intro w8 h8 k8))
  have H8 : Hid (PrvAt w8 O6 x1 ∧ PrvAt w8 O8 x0 ∧ Below w7.heap.size w7 w8) := ⟨(H7.out.1.below HLU.out).ch k8 (by have h1 := HOU.out; have h2 := H7.out.1.lt; omega), h8, HLU.out.trans (k8.below (fun q hq => by have e' : q = O8 := hq; have h1 := HOU.out; omega) HLU.out.size)⟩
  clear h8 k8
  go_upto_region 11 with fail
  obtain ⟨Y9, PS, -, HOP, HLP, HEP, hb⟩ := zBx w8 (psC pz0 pz0) 49
  have HNP : Hid (PsvAt Y9 PS pz0 pz0) := hb
  clear hb
  go_upto_region 12 with (first | (refine wpList_load_prv (.tmp 8) rfl O8 x0 rfl H8.out.2.1 rfl ?_) | (refine wpList_load_prv (.tmp 6) rfl O6 x1 rfl H8.out.1 rfl ?_) | (refine wpList_psb (.tmp 56) (.tmp 57) rfl x0 x1 rfl rfl rfl ?_) | (refine wpList_alloc_psv rfl rfl ?_; rw [HEP.out, HOP.out]) | (refine wpList_store_psv (.tmp 9) (.tmp 58) rfl rfl PS pz0 pz0 x0 x1 rfl rfl HNP.out rfl ?_; intro w9 h9 k9))
  have H9 : Hid (PLS w BK b5 4 PS x0 o0 x1 o1 w9 ∧ PsvAt w9 PS x0 x1) := by
   have n1 := HOP.out; have n2 := HNB.out; have n3 := H8.out.2.2.size
   have bb := bthen H8.out.2.2 HLP.out
   have hl0 := H7.out.2.2.1.lt
   have hb := H7.out.2.1.bel.size
   have kk : Ch (fun q => q = PS) w7 w9 := (Ch.ofBelow bb).trans k9 (fun _ _ e => e)
   have hf : ∀ q, q = PS → w.heap.size ≤ q := fun q e => by omega
   have hP := H7.out.2.1
   have hs67 := HSZ67.out
   refine ⟨⟨H7.out.2.2.1.ch kk hf (fun q hq e => by have e' : q = PS := e; have := hl0 q hq; omega), hP.k0.ch kk hf (fun q hq e => by have e' : q = PS := e; have := hP.k0.lt q hq; omega), hP.bk.ch kk (fun q hq e => by have e' : q = PS := e; have := hP.bk.bk.lt q hq; omega), fun q hq h => by have h1 := H7.out.2.2.2 q hq; have h2 := HL6.out.2 q h; omega, hP.d0, fun q hq h => by have h1 := H7.out.2.2.2 q hq; have h2 := HL6.out.1 q h; omega, fun q hq => by have := hl0 q hq; omega, fun q hq => by have := hP.k0.lt q hq; omega, fun q hq => by have := hP.bk.bk.lt q hq; omega, h9.lt, by omega, hP.bel.trans (kk.below (fun q e => hf q e) hP.bel.size)⟩, h9⟩
  clear h9 k9 H8 H7 HL6
  go_wp2_with fail
  go_loopw [7, 10, 11] (fun _ ix _ wr => ∃ i : Nat, ix = .int .i64 (i : Nat) ∧ i ≤ len ∧ i ≤ 400 ∧ ∃ x0 o0 x1 o1 b', Hid (PLS w BK b' (4 + 4 * i) PS x0 o0 x1 o1 wr ∧ PsvAt wr PS x0 x1)) (fun _ ix _ _ => len - (intOf ix).toNat)
  case atStart => exact ⟨0, rfl, Nat.zero_le _, Nat.zero_le _, x0, o0, x1, o1, b5, H9.out⟩
  case round =>
   clear H9
   obtain ⟨i, rfl, hi, hi4, x0, o0, x1, o1, b5, HI⟩ := hrel
   by_cases hgo : i < len ∧ i < 400
   · as_aux_lemma =>
       obtain ⟨hlt, h400⟩ := hgo
       have p1 : decide ((i : Int) < (len : Int)) = true := decide_eq_true (by omega)
       have p2 : decide (i < len) = true := decide_eq_true hlt
       have p3 : decide ((i : Int) < 400) = true := decide_eq_true (by omega)
       have p4 : decide (i < 400) = true := decide_eq_true h400
       have j0 : (0 : Int) ≤ (i : Int) := by omega
       have j1 : (i : Int) < (len : Int) := by omega
       have j2 : ((i : Int)).toNat = i := by omega
       have wi : IntKind.i64.wrap ((i : Int) + 1) = (i : Int) + 1 := i64_k _ (by omega) (by omega)
       obtain ⟨s, hsw, g, off, rfl, hrg⟩ := st_at HS.out.1 HI.out.1.bel i (by rw [HS.out.2.1]; exact hlt)
       have HRG : Hid (wr.rangeAt g (off + i * 41) (stC s).toList ∧ s.Wf) := ⟨hrg, hsw⟩
       have HGL : Hid (g < w.heap.size) := st_lt HS.out.1 (by rw [HS.out.2.1]; exact hlt) rfl
       have HLT : Hid (i < len ∧ i < 400) := ⟨hlt, h400⟩
       have e1 : wr.cell? ⟨g, off + i * 41 + 1, none⟩ = some (.int .i64 s.ob) := hrg 1 _ rfl
       have ha := and1 s.ob
       obtain ⟨ob, hob⟩ : ∃ v, bits .and .i64 s.ob 1 = v := ⟨_, rfl⟩
       have h01 : ob = 0 ∨ ob = 1 := by rw [hob] at ha; omega
       clear hrg hsw hlt hi h400 hi4 ha
       go_upto_region 16 with fail
       clear p1 p2 p3 p4 e1 hob
       rcases h01 with rfl | rfl
       · as_aux_lemma =>
           obtain ⟨pp, hpp⟩ : ∃ v, x0.p = v := ⟨_, rfl⟩
           have HPP : Hid (x0.p = pp) := hpp
           have z0 : wr.cell? ⟨PS, 0, none⟩ = some (.pointer pp) := by rw [← hpp]; exact HI.out.2.p0
           clear hpp
           cases pp with
           | none =>
            go_wp2_with fail
            go_roundw
            case rel => exact ⟨i + 1, by first | rfl | go_num, by have := HLT.out; omega, by have := HLT.out; omega, x0, o0, x1, o1, b5, HI.out.1.mono (by omega), HI.out.2⟩
            case measure => have := HLT.out; simp [intOf]; omega
           | some pv =>
            have HP0 : Hid (x0.p ≠ none) := by show _ ≠ _; rw [HPP.out]; simp
            go_upto_region 17 with fail
            clear z0
            go_cut [7] (fun f wx => f = .bool true ∧ Hid (∃ x' o' b', PLS w BK b' (4 + 4 * (i + 1)) PS x' o' x1 o1 wx ∧ PsvAt wx PS x' x1))
            case first =>
             refine MixL.start (fun A => PsvAt A PS x0 x1 ∧ A.rangeAt g (off + i * 41) (stC s).toList) 14 (by kernel_rfl) ?_
             obtain ⟨wA, hwA⟩ : ∃ wA, wA = wr.drew := ⟨_, rfl⟩
             have bdr := zDr hwA
             have HA : Hid (PLS w BK b5 (4 + 4 * i) PS x0 o0 x1 o1 wA ∧ PsvAt wA PS x0 x1) := ⟨HI.out.1.below bdr, HI.out.2.below bdr⟩
             have hS : PsvAt wA PS x0 x1 ∧ wA.rangeAt g (off + i * 41) (stC s).toList := ⟨HA.out.2, rng_drew hwA HRG.out.1⟩
             rw [← hwA]
             clear hwA bdr HI
             have QS : Hid _ := play0 HA.out.1 HP0.out HG.out.1 (s := s) HRG.out.2 (by have h9 := HLT.out; omega)
             refine MixL.takes [true, true, true] 13 (by kernel_rfl) (by kernel_rfl) (by decide) (by kernel_rfl) (by kernel_rfl) (by kernel_rfl) hS (fun K hK => ?_)
             simp only [Mix.pick]
             repeat (go_big_quiet_step (fail))
             refine wpQuiet_nil (hK _ ?_)
             clear hK K
             refine MixL.take 12 3 _ (.agg (prC x0)) rfl (by kernel_rfl) (by kernel_rfl) (by kernel_rfl) (by kernel_rfl) (by kernel_rfl) (by kernel_rfl) (by kernel_rfl) (yields_prv (.tmp 83) rfl PS 0 x0 rfl rfl (fun A hA => hA.1.r0)) hS (fun a' ha => ?_)
             simp only [zP1, zP2, zP3, zP4] at ha
             subst ha
             refine MixL.takes [false, false, false, false, true, true, true] 9 (by kernel_rfl) (by kernel_rfl) (by decide) (by kernel_rfl) (by kernel_rfl) (by kernel_rfl) hS (fun K hK => ?_)
             simp only [Mix.pick]
             repeat (go_big_quiet_step (fail))
             refine wpQuiet_nil (hK _ ?_)
             clear hK K
             refine MixL.take 8 7 _ (.agg (stC s)) rfl (by kernel_rfl) (by kernel_rfl) (by kernel_rfl) (by kernel_rfl) (by kernel_rfl) (by kernel_rfl) (by kernel_rfl) (yields_stp (.tmp 87) rfl g (off + i * 41) s rfl rfl (fun A hA => hA.2)) hS (fun a' ha => ?_)
             simp only [zP1, zP2, zP3, zP4] at ha
             subst ha
             refine MixL.takes [false, false, false, false, false, false, false, false, true] 7 (by kernel_rfl) (by kernel_rfl) (by decide) (by kernel_rfl) (by kernel_rfl) (by kernel_rfl) hS (fun K hK => ?_)
             simp only [Mix.pick]
             repeat (go_big_quiet_step (fail))
             refine wpQuiet_nil (hK _ ?_)
             clear hK K
             refine MixL.many [9] 6 (by kernel_rfl) (by decide) (by kernel_rfl) ?_
             intro i_ hi_
             simp only [zMc, zMn, or_false] at hi_
             subst hi_
             refine ⟨_, rfl, fun K hK => ?_⟩
             go_wp2_with fail
             refine Calls.mono QS.out ?_
             rintro eb w5 ⟨x', o', b', rfl, hP, k5, _, _⟩
             have H5 : Hid (PLS w BK b' (4 + 4 * (i + 1)) PS x' o' x1 o1 w5 ∧ PsvAt w5 PS x0 x1) := ⟨hP.mono (by omega), HA.out.2.ch k5 (fun h => by
              rcases h with h | h
              · exact HA.out.1.z0 PS h rfl
              · exact HA.out.1.zb PS h rfl)⟩
             have hS' : PsvAt w5 PS x0 x1 ∧ w5.rangeAt g (off + i * 41) (stC s).toList := ⟨H5.out.2, rng_old HA.out.1.bel H5.out.1.bel HGL.out hS.2⟩
             clear hS
             have hS : PsvAt w5 PS x0 x1 ∧ w5.rangeAt g (off + i * 41) (stC s).toList := hS'
             clear hS'
             clear hP k5 HA QS
             go_wp2_with fail
             refine ⟨rfl, hK _ _ (fun _ => hS) ?_⟩
             clear hK K
             refine MixL.takes [false, false, false, false, false, false, false, false, false, false, true, true] 4 (by kernel_rfl) (by kernel_rfl) (by decide) (by kernel_rfl) (by kernel_rfl) (by kernel_rfl) hS (fun K hK => ?_)
             simp only [Mix.pick]
             repeat (go_big_quiet_step (fail))
             refine wpQuiet_nil (hK _ ?_)
             clear hK K
             refine MixL.takes [false, false, false, false, false, false, false, false, false, false, false, false, false, true] 3 (by kernel_rfl) (by kernel_rfl) (by decide) (by kernel_rfl) (by kernel_rfl) (by kernel_rfl) hS (fun K hK => ?_)
             simp only [Mix.pick]
             repeat (go_big_quiet_step (fail))
             refine wpQuiet_nil (hK _ ?_)
             clear hK K
             refine MixL.many [12, 14] 2 (by kernel_rfl) (by decide) (by kernel_rfl) ?_
             intro i_ hi_
             simp only [zMc, zMn, or_false] at hi_
             rcases hi_ with rfl | rfl
             · refine ⟨_, rfl, fun K hK => ?_⟩
               go_wp2_with fail
               refine ⟨rfl, hK _ _ (fun _ => hS) ?_⟩
               clear hK K
               refine MixL.many [14] 1 (by kernel_rfl) (by decide) (by kernel_rfl) ?_
               intro i_ hi_
               simp only [zMc, zMn, or_false] at hi_
               subst hi_
               refine ⟨_, rfl, fun K hK => ?_⟩
               go_wp2_with (refine wpList_store_ps0 (.tmp 93) (.tmp 91) rfl rfl PS x0 x1 x' rfl rfl H5.out.2 rfl ?_)
               intro w6 h6 k6
               have HR : Hid (∃ x' o' b', PLS w BK b' (4 + 4 * (i + 1)) PS x' o' x1 o1 w6 ∧ PsvAt w6 PS x' x1) := ⟨x', o', b', H5.out.1.chZ k6, h6⟩
               clear h6 k6 hS
               go_wp2_with fail
               refine ⟨rfl, hK _ _ (fun q => absurd (q.symm.trans (by kernel_rfl)) Bool.false_ne_true) ?_⟩
               clear hK K
               refine MixL.many [15] 0 (by kernel_rfl) (by decide) (by kernel_rfl) ?_
               intro i_ hi_
               simp only [zMc, zMn, or_false] at hi_
               subst hi_
               refine ⟨_, rfl, fun K hK => ?_⟩
               go_wp2_with fail
               refine ⟨rfl, hK _ _ (fun q => absurd (q.symm.trans (by kernel_rfl)) Bool.false_ne_true) ?_⟩
               clear hK K
               refine MixL.done (by kernel_rfl) ?_
               go_wp2_with fail
               go_meet
               exact ⟨rfl, HR⟩
             · refine ⟨_, rfl, fun K hK => ?_⟩
               go_wp2_with (refine wpList_store_ps0 (.tmp 93) (.tmp 91) rfl rfl PS x0 x1 x' rfl rfl H5.out.2 rfl ?_)
               intro w6 h6 k6
               have HR : Hid (∃ x' o' b', PLS w BK b' (4 + 4 * (i + 1)) PS x' o' x1 o1 w6 ∧ PsvAt w6 PS x' x1) := ⟨x', o', b', H5.out.1.chZ k6, h6⟩
               clear h6 k6 hS
               go_wp2_with fail
               refine ⟨rfl, hK _ _ (fun q => absurd (q.symm.trans (by kernel_rfl)) Bool.false_ne_true) ?_⟩
               clear hK K
               refine MixL.many [12] 1 (by kernel_rfl) (by decide) (by kernel_rfl) ?_
               intro i_ hi_
               simp only [zMc, zMn, or_false] at hi_
               subst hi_
               refine ⟨_, rfl, fun K hK => ?_⟩
               go_wp2_with fail
               refine ⟨rfl, hK _ _ (fun q => absurd (q.symm.trans (by kernel_rfl)) Bool.false_ne_true) ?_⟩
               clear hK K
               refine MixL.many [15] 0 (by kernel_rfl) (by decide) (by kernel_rfl) ?_
               intro i_ hi_
               simp only [zMc, zMn, or_false] at hi_
               subst hi_
               refine ⟨_, rfl, fun K hK => ?_⟩
               go_wp2_with fail
               refine ⟨rfl, hK _ _ (fun q => absurd (q.symm.trans (by kernel_rfl)) Bool.false_ne_true) ?_⟩
               clear hK K
               refine MixL.done (by kernel_rfl) ?_
               go_wp2_with fail
               go_meet
               exact ⟨rfl, HR⟩
            case rest =>
             obtain ⟨rfl, HC⟩ := hcut
             obtain ⟨x', o', b', h61, h62⟩ := HC.out
             obtain ⟨w6, hw6⟩ : ∃ W_, W_ = wc := ⟨_, rfl⟩
             rw [← hw6] at h61 h62 ⊢
             have H6 : Hid (PLS w BK b' (4 + 4 * (i + 1)) PS x' o' x1 o1 w6 ∧ PsvAt w6 PS x' x1) := ⟨h61, h62⟩
             have QB : Hid _ := whole_any w6 BK b' h61.bk.bk h61.bk.mg (by have := h61.bk.ln; have h9 := HLT.out; omega)
             clear HC h61 h62 hw6 HI
             go_wp2_with fail
             refine Calls.mono QB.out ?_
             rintro ec w7 ⟨rfl, b7⟩
             have H7 : Hid (PLS w BK b' (4 + 4 * (i + 1)) PS x' o' x1 o1 w7 ∧ PsvAt w7 PS x' x1) := ⟨H6.out.1.below b7, H6.out.2.below b7⟩
             clear b7 QB H6
             go_wp2_with fail
             go_roundw
             case rel => exact ⟨i + 1, by first | rfl | go_num, by have := HLT.out; omega, by have := HLT.out; omega, x', o', x1, o1, b', H7.out⟩
             case measure => have := HLT.out; simp [intOf]; omega
       · as_aux_lemma =>
           obtain ⟨pp, hpp⟩ : ∃ v, x1.p = v := ⟨_, rfl⟩
           have HPP : Hid (x1.p = pp) := hpp
           have z0 : wr.cell? ⟨PS, 64, none⟩ = some (.pointer pp) := by rw [← hpp]; exact HI.out.2.p1
           clear hpp
           cases pp with
           | none =>
            go_wp2_with fail
            go_roundw
            case rel => exact ⟨i + 1, by first | rfl | go_num, by have := HLT.out; omega, by have := HLT.out; omega, x0, o0, x1, o1, b5, HI.out.1.mono (by omega), HI.out.2⟩
            case measure => have := HLT.out; simp [intOf]; omega
           | some pv =>
            have HP1 : Hid (x1.p ≠ none) := by show _ ≠ _; rw [HPP.out]; simp
            go_upto_region 17 with fail
            clear z0
            go_cut [7] (fun f wx => f = .bool true ∧ Hid (∃ x' o' b', PLS w BK b' (4 + 4 * (i + 1)) PS x0 o0 x' o' wx ∧ PsvAt wx PS x0 x'))
            case first =>
             refine MixL.start (fun A => PsvAt A PS x0 x1 ∧ A.rangeAt g (off + i * 41) (stC s).toList) 14 (by kernel_rfl) ?_
             obtain ⟨wA, hwA⟩ : ∃ wA, wA = wr.drew := ⟨_, rfl⟩
             have bdr := zDr hwA
             have HA : Hid (PLS w BK b5 (4 + 4 * i) PS x0 o0 x1 o1 wA ∧ PsvAt wA PS x0 x1) := ⟨HI.out.1.below bdr, HI.out.2.below bdr⟩
             have hS : PsvAt wA PS x0 x1 ∧ wA.rangeAt g (off + i * 41) (stC s).toList := ⟨HA.out.2, rng_drew hwA HRG.out.1⟩
             rw [← hwA]
             clear hwA bdr HI
             have QS : Hid _ := play1 HA.out.1 HP1.out HG.out.1 (s := s) HRG.out.2 (by have h9 := HLT.out; omega)
             refine MixL.takes [true, true, true] 13 (by kernel_rfl) (by kernel_rfl) (by decide) (by kernel_rfl) (by kernel_rfl) (by kernel_rfl) hS (fun K hK => ?_)
             simp only [Mix.pick]
             repeat (go_big_quiet_step (fail))
             refine wpQuiet_nil (hK _ ?_)
             clear hK K
             refine MixL.take 12 3 _ (.agg (prC x1)) rfl (by kernel_rfl) (by kernel_rfl) (by kernel_rfl) (by kernel_rfl) (by kernel_rfl) (by kernel_rfl) (by kernel_rfl) (yields_prv (.tmp 83) rfl PS 64 x1 rfl rfl (fun A hA => hA.1.r1)) hS (fun a' ha => ?_)
             simp only [zP1, zP2, zP3, zP4] at ha
             subst ha
             refine MixL.takes [false, false, false, false, true, true, true] 9 (by kernel_rfl) (by kernel_rfl) (by decide) (by kernel_rfl) (by kernel_rfl) (by kernel_rfl) hS (fun K hK => ?_)
             simp only [Mix.pick]
             repeat (go_big_quiet_step (fail))
             refine wpQuiet_nil (hK _ ?_)
             clear hK K
             refine MixL.take 8 7 _ (.agg (stC s)) rfl (by kernel_rfl) (by kernel_rfl) (by kernel_rfl) (by kernel_rfl) (by kernel_rfl) (by kernel_rfl) (by kernel_rfl) (yields_stp (.tmp 87) rfl g (off + i * 41) s rfl rfl (fun A hA => hA.2)) hS (fun a' ha => ?_)
             simp only [zP1, zP2, zP3, zP4] at ha
             subst ha
             refine MixL.takes [false, false, false, false, false, false, false, false, true] 7 (by kernel_rfl) (by kernel_rfl) (by decide) (by kernel_rfl) (by kernel_rfl) (by kernel_rfl) hS (fun K hK => ?_)
             simp only [Mix.pick]
             repeat (go_big_quiet_step (fail))
             refine wpQuiet_nil (hK _ ?_)
             clear hK K
             refine MixL.many [9] 6 (by kernel_rfl) (by decide) (by kernel_rfl) ?_
             intro i_ hi_
             simp only [zMc, zMn, or_false] at hi_
             subst hi_
             refine ⟨_, rfl, fun K hK => ?_⟩
             go_wp2_with fail
             refine Calls.mono QS.out ?_
             rintro eb w5 ⟨x', o', b', rfl, hP, k5, _⟩
             have H5 : Hid (PLS w BK b' (4 + 4 * (i + 1)) PS x0 o0 x' o' w5 ∧ PsvAt w5 PS x0 x1) := ⟨hP.mono (by omega), HA.out.2.ch k5 (fun h => by
              rcases h with h | h
              · exact HA.out.1.z1 PS h rfl
              · exact HA.out.1.zb PS h rfl)⟩
             have hS' : PsvAt w5 PS x0 x1 ∧ w5.rangeAt g (off + i * 41) (stC s).toList := ⟨H5.out.2, rng_old HA.out.1.bel H5.out.1.bel HGL.out hS.2⟩
             clear hS
             have hS : PsvAt w5 PS x0 x1 ∧ w5.rangeAt g (off + i * 41) (stC s).toList := hS'
             clear hS'
             clear hP k5 HA QS
             go_wp2_with fail
             refine ⟨rfl, hK _ _ (fun _ => hS) ?_⟩
             clear hK K
             refine MixL.takes [false, false, false, false, false, false, false, false, false, false, true, true] 4 (by kernel_rfl) (by kernel_rfl) (by decide) (by kernel_rfl) (by kernel_rfl) (by kernel_rfl) hS (fun K hK => ?_)
             simp only [Mix.pick]
             repeat (go_big_quiet_step (fail))
             refine wpQuiet_nil (hK _ ?_)
             clear hK K
             refine MixL.takes [false, false, false, false, false, false, false, false, false, false, false, false, false, true] 3 (by kernel_rfl) (by kernel_rfl) (by decide) (by kernel_rfl) (by kernel_rfl) (by kernel_rfl) hS (fun K hK => ?_)
             simp only [Mix.pick]
             repeat (go_big_quiet_step (fail))
             refine wpQuiet_nil (hK _ ?_)
             clear hK K
             refine MixL.many [12, 14] 2 (by kernel_rfl) (by decide) (by kernel_rfl) ?_
             intro i_ hi_
             simp only [zMc, zMn, or_false] at hi_
             rcases hi_ with rfl | rfl
             · refine ⟨_, rfl, fun K hK => ?_⟩
               go_wp2_with fail
               refine ⟨rfl, hK _ _ (fun _ => hS) ?_⟩
               clear hK K
               refine MixL.many [14] 1 (by kernel_rfl) (by decide) (by kernel_rfl) ?_
               intro i_ hi_
               simp only [zMc, zMn, or_false] at hi_
               subst hi_
               refine ⟨_, rfl, fun K hK => ?_⟩
               go_wp2_with (refine wpList_store_ps1 (.tmp 93) (.tmp 91) rfl rfl PS x0 x1 x' rfl rfl H5.out.2 rfl ?_)
               intro w6 h6 k6
               have HR : Hid (∃ x' o' b', PLS w BK b' (4 + 4 * (i + 1)) PS x0 o0 x' o' w6 ∧ PsvAt w6 PS x0 x') := ⟨x', o', b', H5.out.1.chZ k6, h6⟩
               clear h6 k6 hS
               go_wp2_with fail
               refine ⟨rfl, hK _ _ (fun q => absurd (q.symm.trans (by kernel_rfl)) Bool.false_ne_true) ?_⟩
               clear hK K
               refine MixL.many [15] 0 (by kernel_rfl) (by decide) (by kernel_rfl) ?_
               intro i_ hi_
               simp only [zMc, zMn, or_false] at hi_
               subst hi_
               refine ⟨_, rfl, fun K hK => ?_⟩
               go_wp2_with fail
               refine ⟨rfl, hK _ _ (fun q => absurd (q.symm.trans (by kernel_rfl)) Bool.false_ne_true) ?_⟩
               clear hK K
               refine MixL.done (by kernel_rfl) ?_
               go_wp2_with fail
               go_meet
               exact ⟨rfl, HR⟩
             · refine ⟨_, rfl, fun K hK => ?_⟩
               go_wp2_with (refine wpList_store_ps1 (.tmp 93) (.tmp 91) rfl rfl PS x0 x1 x' rfl rfl H5.out.2 rfl ?_)
               intro w6 h6 k6
               have HR : Hid (∃ x' o' b', PLS w BK b' (4 + 4 * (i + 1)) PS x0 o0 x' o' w6 ∧ PsvAt w6 PS x0 x') := ⟨x', o', b', H5.out.1.chZ k6, h6⟩
               clear h6 k6 hS
               go_wp2_with fail
               refine ⟨rfl, hK _ _ (fun q => absurd (q.symm.trans (by kernel_rfl)) Bool.false_ne_true) ?_⟩
               clear hK K
               refine MixL.many [12] 1 (by kernel_rfl) (by decide) (by kernel_rfl) ?_
               intro i_ hi_
               simp only [zMc, zMn, or_false] at hi_
               subst hi_
               refine ⟨_, rfl, fun K hK => ?_⟩
               go_wp2_with fail
               refine ⟨rfl, hK _ _ (fun q => absurd (q.symm.trans (by kernel_rfl)) Bool.false_ne_true) ?_⟩
               clear hK K
               refine MixL.many [15] 0 (by kernel_rfl) (by decide) (by kernel_rfl) ?_
               intro i_ hi_
               simp only [zMc, zMn, or_false] at hi_
               subst hi_
               refine ⟨_, rfl, fun K hK => ?_⟩
               go_wp2_with fail
               refine ⟨rfl, hK _ _ (fun q => absurd (q.symm.trans (by kernel_rfl)) Bool.false_ne_true) ?_⟩
               clear hK K
               refine MixL.done (by kernel_rfl) ?_
               go_wp2_with fail
               go_meet
               exact ⟨rfl, HR⟩
            case rest =>
             obtain ⟨rfl, HC⟩ := hcut
             obtain ⟨x', o', b', h61, h62⟩ := HC.out
             obtain ⟨w6, hw6⟩ : ∃ W_, W_ = wc := ⟨_, rfl⟩
             rw [← hw6] at h61 h62 ⊢
             have H6 : Hid (PLS w BK b' (4 + 4 * (i + 1)) PS x0 o0 x' o' w6 ∧ PsvAt w6 PS x0 x') := ⟨h61, h62⟩
             have QB : Hid _ := whole_any w6 BK b' h61.bk.bk h61.bk.mg (by have := h61.bk.ln; have h9 := HLT.out; omega)
             clear HC h61 h62 hw6 HI
             go_wp2_with fail
             refine Calls.mono QB.out ?_
             rintro ec w7 ⟨rfl, b7⟩
             have H7 : Hid (PLS w BK b' (4 + 4 * (i + 1)) PS x0 o0 x' o' w7 ∧ PsvAt w7 PS x0 x') := ⟨H6.out.1.below b7, H6.out.2.below b7⟩
             clear b7 QB H6
             go_wp2_with fail
             go_roundw
             case rel => exact ⟨i + 1, by first | rfl | go_num, by have := HLT.out; omega, by have := HLT.out; omega, x0, o0, x', o', b', H7.out⟩
             case measure => have := HLT.out; simp [intOf]; omega
   · as_aux_lemma =>
       have HI4 : Hid (i ≤ 400) := hi4
       clear hi4
       by_cases hlt : i < len
       · have h400 : ¬ i < 400 := fun h => hgo ⟨hlt, h⟩
         have p1 : decide ((i : Int) < (len : Int)) = true := decide_eq_true (by omega)
         have p2 : decide (i < len) = true := decide_eq_true hlt
         have p3 : decide ((i : Int) < 400) = false := decide_eq_false (by omega)
         have p4 : decide (i < 400) = false := decide_eq_false h400
         clear hgo hlt h400 hi
         go_upto_region 20 with fail
         clear p3 p4
         go_wp2_with fail
         clear p1 p2
         have HZ0 : Hid (PLS w BK b5 (2000 + 4 * 0) PS x0 o0 x1 o1 wr ∧ PsvAt wr PS x0 x1) := ⟨HI.out.1.mono (by have := HI4.out; omega), HI.out.2⟩
         clear HI HI4
         go_loopw [7, 12] (fun _ ox wr => ∃ j : Nat, ox = .int .i64 (j : Nat) ∧ j ≤ 2 ∧ ∃ x0 o0 x1 o1 b', Hid (PLS w BK b' (2000 + 4 * j) PS x0 o0 x1 o1 wr ∧ PsvAt wr PS x0 x1)) (fun _ ox _ => 2 - (intOf ox).toNat)
         case atStart => exact ⟨0, rfl, Nat.zero_le _, x0, o0, x1, o1, b5, HZ0.out⟩
         case round =>
          clear HZ0
          obtain ⟨j, rfl, hj, x0, o0, x1, o1, b5, HI⟩ := hrel
          by_cases h2 : j = 2
          · subst h2
            go_wp2_with fail
            go_ret
            exact ⟨rfl, HI.out.1.bel⟩
          · by_cases h0 : j = 0
            · subst h0
              simp only [Int.cast_ofNat_Int]
              obtain ⟨pp, hpp⟩ : ∃ v, x0.p = v := ⟨_, rfl⟩
              have HPP : Hid (x0.p = pp) := hpp
              have z0 : wr.cell? ⟨PS, 0, none⟩ = some (.pointer pp) := by rw [← hpp]; exact HI.out.2.p0
              clear hpp
              cases pp with
              | none =>
               go_wp2_with fail
               go_roundw
               case rel => exact ⟨1, by first | rfl | go_num, by omega, x0, o0, x1, o1, b5, HI.out.1.mono (by omega), HI.out.2⟩
               case measure => simp [intOf]
              | some pv =>
               have HP0 : Hid (x0.p ≠ none) := by show _ ≠ _; rw [HPP.out]; simp
               go_upto_region 24 with fail
               clear z0
               have QS : Hid _ := play0 HI.out.1 HP0.out HG.out.1 (s := ⟨5, 0, xz, 0, 0⟩) st5_wf (by omega)
               go_wp2_with (first | (refine wpList_mid_prv (.tmp 113) rfl PS 0 x0 rfl HI.out.2.r0 rfl ?_) | (refine wpList_stb5 rfl () rfl ?_))
               refine Calls.mono QS.out ?_
               rintro eb w5 ⟨x', o', b', rfl, hP, k5, _, _⟩
               have H5 : Hid (PLS w BK b' (2000 + 4 * (0 + 1)) PS x' o' x1 o1 w5 ∧ PsvAt w5 PS x0 x1) := ⟨hP.mono (by omega), HI.out.2.ch k5 (fun h => by
                rcases h with h | h
                · exact HI.out.1.z0 PS h rfl
                · exact HI.out.1.zb PS h rfl)⟩
               clear hP k5 QS HI
               go_wp2_with (refine wpList_store_ps0 (.tmp 120) (.tmp 118) rfl rfl PS x0 x1 x' rfl rfl H5.out.2 rfl ?_)
               intro w6 h6 k6
               have H6 : Hid (PLS w BK b' (2000 + 4 * (0 + 1)) PS x' o' x1 o1 w6 ∧ PsvAt w6 PS x' x1) := ⟨H5.out.1.chZ k6, h6⟩
               clear h6 k6 H5
               have QB : Hid _ := whole_any w6 BK b' H6.out.1.bk.bk H6.out.1.bk.mg (by have := H6.out.1.bk.ln; omega)
               go_wp2_with fail
               refine Calls.mono QB.out ?_
               rintro ec w7 ⟨rfl, b7⟩
               have H7 : Hid (PLS w BK b' (2000 + 4 * (0 + 1)) PS x' o' x1 o1 w7 ∧ PsvAt w7 PS x' x1) := ⟨H6.out.1.below b7, H6.out.2.below b7⟩
               clear b7 QB H6
               go_wp2_with fail
               go_roundw
               case rel => exact ⟨1, by first | rfl | go_num, by omega, x', o', x1, o1, b', H7.out⟩
               case measure => simp [intOf]
            · obtain rfl : j = 1 := by omega
              obtain ⟨pp, hpp⟩ : ∃ v, x1.p = v := ⟨_, rfl⟩
              have HPP : Hid (x1.p = pp) := hpp
              have z0 : wr.cell? ⟨PS, 64, none⟩ = some (.pointer pp) := by rw [← hpp]; exact HI.out.2.p1
              clear hpp
              cases pp with
              | none =>
               go_wp2_with fail
               go_roundw
               case rel => exact ⟨2, by first | rfl | go_num, by omega, x0, o0, x1, o1, b5, HI.out.1.mono (by omega), HI.out.2⟩
               case measure => simp [intOf]
              | some pv =>
               have HP1 : Hid (x1.p ≠ none) := by show _ ≠ _; rw [HPP.out]; simp
               go_upto_region 24 with fail
               clear z0
               have QS : Hid _ := play1 HI.out.1 HP1.out HG.out.1 (s := ⟨5, 0, xz, 0, 0⟩) st5_wf (by omega)
               go_wp2_with (first | (refine wpList_mid_prv (.tmp 113) rfl PS 64 x1 rfl HI.out.2.r1 rfl ?_) | (refine wpList_stb5 rfl () rfl ?_))
               refine Calls.mono QS.out ?_
               rintro eb w5 ⟨x', o', b', rfl, hP, k5, _⟩
               have H5 : Hid (PLS w BK b' (2000 + 4 * (1 + 1)) PS x0 o0 x' o' w5 ∧ PsvAt w5 PS x0 x1) := ⟨hP.mono (by omega), HI.out.2.ch k5 (fun h => by
                rcases h with h | h
                · exact HI.out.1.z1 PS h rfl
                · exact HI.out.1.zb PS h rfl)⟩
               clear hP k5 QS HI
               go_wp2_with (refine wpList_store_ps1 (.tmp 120) (.tmp 118) rfl rfl PS x0 x1 x' rfl rfl H5.out.2 rfl ?_)
               intro w6 h6 k6
               have H6 : Hid (PLS w BK b' (2000 + 4 * (1 + 1)) PS x0 o0 x' o' w6 ∧ PsvAt w6 PS x0 x') := ⟨H5.out.1.chZ k6, h6⟩
               clear h6 k6 H5
               have QB : Hid _ := whole_any w6 BK b' H6.out.1.bk.bk H6.out.1.bk.mg (by have := H6.out.1.bk.ln; omega)
               go_wp2_with fail
               refine Calls.mono QB.out ?_
               rintro ec w7 ⟨rfl, b7⟩
               have H7 : Hid (PLS w BK b' (2000 + 4 * (1 + 1)) PS x0 o0 x' o' w7 ∧ PsvAt w7 PS x0 x') := ⟨H6.out.1.below b7, H6.out.2.below b7⟩
               clear b7 QB H6
               go_wp2_with fail
               go_roundw
               case rel => exact ⟨2, by first | rfl | go_num, by omega, x0, o0, x', o', b', H7.out⟩
               case measure => simp [intOf]
       · have p1 : decide ((i : Int) < (len : Int)) = false := decide_eq_false (by omega)
         have p2 : decide (i < len) = false := decide_eq_false hlt
         clear hgo hlt hi
         go_upto_region 20 with fail
         go_wp2_with fail
         clear p1 p2
         have HZ0 : Hid (PLS w BK b5 (2000 + 4 * 0) PS x0 o0 x1 o1 wr ∧ PsvAt wr PS x0 x1) := ⟨HI.out.1.mono (by have := HI4.out; omega), HI.out.2⟩
         clear HI HI4
         go_loopw [7, 12] (fun _ ox wr => ∃ j : Nat, ox = .int .i64 (j : Nat) ∧ j ≤ 2 ∧ ∃ x0 o0 x1 o1 b', Hid (PLS w BK b' (2000 + 4 * j) PS x0 o0 x1 o1 wr ∧ PsvAt wr PS x0 x1)) (fun _ ox _ => 2 - (intOf ox).toNat)
         case atStart => exact ⟨0, rfl, Nat.zero_le _, x0, o0, x1, o1, b5, HZ0.out⟩
         case round =>
          clear HZ0
          obtain ⟨j, rfl, hj, x0, o0, x1, o1, b5, HI⟩ := hrel
          by_cases h2 : j = 2
          · subst h2
            go_wp2_with fail
            go_ret
            exact ⟨rfl, HI.out.1.bel⟩
          · by_cases h0 : j = 0
            · subst h0
              simp only [Int.cast_ofNat_Int]
              obtain ⟨pp, hpp⟩ : ∃ v, x0.p = v := ⟨_, rfl⟩
              have HPP : Hid (x0.p = pp) := hpp
              have z0 : wr.cell? ⟨PS, 0, none⟩ = some (.pointer pp) := by rw [← hpp]; exact HI.out.2.p0
              clear hpp
              cases pp with
              | none =>
               go_wp2_with fail
               go_roundw
               case rel => exact ⟨1, by first | rfl | go_num, by omega, x0, o0, x1, o1, b5, HI.out.1.mono (by omega), HI.out.2⟩
               case measure => simp [intOf]
              | some pv =>
               have HP0 : Hid (x0.p ≠ none) := by show _ ≠ _; rw [HPP.out]; simp
               go_upto_region 24 with fail
               clear z0
               have QS : Hid _ := play0 HI.out.1 HP0.out HG.out.1 (s := ⟨5, 0, xz, 0, 0⟩) st5_wf (by omega)
               go_wp2_with (first | (refine wpList_mid_prv (.tmp 113) rfl PS 0 x0 rfl HI.out.2.r0 rfl ?_) | (refine wpList_stb5 rfl () rfl ?_))
               refine Calls.mono QS.out ?_
               rintro eb w5 ⟨x', o', b', rfl, hP, k5, _, _⟩
               have H5 : Hid (PLS w BK b' (2000 + 4 * (0 + 1)) PS x' o' x1 o1 w5 ∧ PsvAt w5 PS x0 x1) := ⟨hP.mono (by omega), HI.out.2.ch k5 (fun h => by
                rcases h with h | h
                · exact HI.out.1.z0 PS h rfl
                · exact HI.out.1.zb PS h rfl)⟩
               clear hP k5 QS HI
               go_wp2_with (refine wpList_store_ps0 (.tmp 120) (.tmp 118) rfl rfl PS x0 x1 x' rfl rfl H5.out.2 rfl ?_)
               intro w6 h6 k6
               have H6 : Hid (PLS w BK b' (2000 + 4 * (0 + 1)) PS x' o' x1 o1 w6 ∧ PsvAt w6 PS x' x1) := ⟨H5.out.1.chZ k6, h6⟩
               clear h6 k6 H5
               have QB : Hid _ := whole_any w6 BK b' H6.out.1.bk.bk H6.out.1.bk.mg (by have := H6.out.1.bk.ln; omega)
               go_wp2_with fail
               refine Calls.mono QB.out ?_
               rintro ec w7 ⟨rfl, b7⟩
               have H7 : Hid (PLS w BK b' (2000 + 4 * (0 + 1)) PS x' o' x1 o1 w7 ∧ PsvAt w7 PS x' x1) := ⟨H6.out.1.below b7, H6.out.2.below b7⟩
               clear b7 QB H6
               go_wp2_with fail
               go_roundw
               case rel => exact ⟨1, by first | rfl | go_num, by omega, x', o', x1, o1, b', H7.out⟩
               case measure => simp [intOf]
            · obtain rfl : j = 1 := by omega
              obtain ⟨pp, hpp⟩ : ∃ v, x1.p = v := ⟨_, rfl⟩
              have HPP : Hid (x1.p = pp) := hpp
              have z0 : wr.cell? ⟨PS, 64, none⟩ = some (.pointer pp) := by rw [← hpp]; exact HI.out.2.p1
              clear hpp
              cases pp with
              | none =>
               go_wp2_with fail
               go_roundw
               case rel => exact ⟨2, by first | rfl | go_num, by omega, x0, o0, x1, o1, b5, HI.out.1.mono (by omega), HI.out.2⟩
               case measure => simp [intOf]
              | some pv =>
               have HP1 : Hid (x1.p ≠ none) := by show _ ≠ _; rw [HPP.out]; simp
               go_upto_region 24 with fail
               clear z0
               have QS : Hid _ := play1 HI.out.1 HP1.out HG.out.1 (s := ⟨5, 0, xz, 0, 0⟩) st5_wf (by omega)
               go_wp2_with (first | (refine wpList_mid_prv (.tmp 113) rfl PS 64 x1 rfl HI.out.2.r1 rfl ?_) | (refine wpList_stb5 rfl () rfl ?_))
               refine Calls.mono QS.out ?_
               rintro eb w5 ⟨x', o', b', rfl, hP, k5, _⟩
               have H5 : Hid (PLS w BK b' (2000 + 4 * (1 + 1)) PS x0 o0 x' o' w5 ∧ PsvAt w5 PS x0 x1) := ⟨hP.mono (by omega), HI.out.2.ch k5 (fun h => by
                rcases h with h | h
                · exact HI.out.1.z1 PS h rfl
                · exact HI.out.1.zb PS h rfl)⟩
               clear hP k5 QS HI
               go_wp2_with (refine wpList_store_ps1 (.tmp 120) (.tmp 118) rfl rfl PS x0 x1 x' rfl rfl H5.out.2 rfl ?_)
               intro w6 h6 k6
               have H6 : Hid (PLS w BK b' (2000 + 4 * (1 + 1)) PS x0 o0 x' o' w6 ∧ PsvAt w6 PS x0 x') := ⟨H5.out.1.chZ k6, h6⟩
               clear h6 k6 H5
               have QB : Hid _ := whole_any w6 BK b' H6.out.1.bk.bk H6.out.1.bk.mg (by have := H6.out.1.bk.ln; omega)
               go_wp2_with fail
               refine Calls.mono QB.out ?_
               rintro ec w7 ⟨rfl, b7⟩
               have H7 : Hid (PLS w BK b' (2000 + 4 * (1 + 1)) PS x0 o0 x' o' w7 ∧ PsvAt w7 PS x0 x') := ⟨H6.out.1.below b7, H6.out.2.below b7⟩
               clear b7 QB H6
               go_wp2_with fail
               go_roundw
               case rel => exact ⟨2, by first | rfl | go_num, by omega, x0, o0, x', o', b', H7.out⟩
               case measure => simp [intOf]
end Go.Proofs.YtclpeepnngegaaaGreatDoor
